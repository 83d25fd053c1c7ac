import Derived.Test.YtfofmmkihhnfmaaGreatDoorJam
set_option linter.unusedVariables false
set_option linter.unusedSimpArgs false
namespace Go.Proofs.YtfofmmkihhnfmaaGreatDoor
open Go.ChangeShapes Go.WideShapes Go.ChangeAt Go.RowKit Go.Maps
theorem told_fullR (w : World) {mb o : Nat} {ao : Option Addr} {c : Nat} (c0 : w.cell? ⟨mb, o, none⟩ = some (.slice ao 1048576 c)) {r : Bool} (c7 : w.cell? ⟨mb, o + 7, none⟩ = some (.bool r)) (fz : w.frozen? ⟨mb, o + 7, none⟩ = false) (k x : Int) :
 Calls Tryz.prog 107 #[.pointer (some ⟨mb, o, none⟩), .int .i64 k, .int .i64 x] w fun e w' => e = .returned (.bool false) /\ w' = w.setCell ⟨mb, o + 7, none⟩ (.bool true) := by
 go_enter Tryz.func107, Tryz.ntmps107
 go_wp2_with fail
 go_ret
 exact ⟨rfl, rfl⟩
theorem mEventR {s d w R} (h : Rm s d w R) (k x : Int) :
 Calls Tryz.prog 107 #[.pointer (some ⟨s.mb, 66, none⟩), .int .i64 k, .int .i64 x] w fun e w' => (∃ b, e = .returned (.bool b)) /\ ∃ d', Rm s d' w' (R.tell k x) /\ FooR s d d' w w' := by
 have T := h.cells
 by_cases hf : R.ev.length = 1048576
 ·obtain ⟨ao, c, e, _⟩ := evs_of h.rest.ev
  have c1 := T.c66
  rw [e, hf] at c1
  refine (told_fullR w (o := 66) c1 T.c73 (h.fz _) k x).mono ?_
  rintro e w' ⟨rfl, rfl⟩
  unfold Rv.tell
  rw [if_pos hf]
  exact ⟨⟨_, rfl⟩, d, h.resting⟩
 ·have hn : R.ev.length < 1048576 := by have := h.rest.evs; omega
  refine (told_event w (o := 66) h.box (by decide) T.c66 h.rest.ev hn h.rest.hi.1 k x).mono ?_
  rintro e w' ⟨rfl, v', w5, h5, g5, e5, rfl⟩
  have q := h.rest.setEv g5 h5 (by simp; omega)
  unfold Rv.tell
  rw [if_neg hf]
  have hbx : w5.heap[s.mb]? = some (.cells (rcs s d R).toArray 86 (0, 0)) := e5.trans h.box
  exact ⟨⟨_, rfl⟩, { d with ve := v' }, ⟨box_setR hbx (rcs_setTail (d' := { d with ve := v' }) (R' := { R with ev := R.ev ++ [(k, x)] }) h.rg (j := 8) rfl rfl rfl), h.rg, q.1.set _ _⟩, q.2.2.trans (FooR.set s { d with ve := v' } w5 _ _)⟩
theorem mPanicR {s d w R} (h : Rm s d w R) (k x : Int) :
 Calls Tryz.prog 68 #[.pointer (some ⟨s.mb, 66, none⟩), .int .i64 k, .int .i64 x] w fun e w' => e = .returned (.tuple #[]) /\ ∃ d', Rm s d' w' (R.panic k x) /\ FooR s d d' w w' := by
 have T := h.cells
 refine (told_panic w (o := 66) (k := k) (v := x) T.c67 T.c68 T.c69 (h.fz _) (h.fz _) (h.fz _)).mono ?_
 rintro e w' ⟨rfl, rfl⟩
 exact ⟨rfl, d, h.panic k x⟩
theorem mStuckR {s d w R} (h : Rm s d w R) (k : Int) :
 Calls Tryz.prog 110 #[.pointer (some ⟨s.mb, 66, none⟩), .int .i64 k] w fun e w' => e = .returned (.tuple #[]) /\ ∃ d', Rm s d' w' (R.stuck k) /\ FooR s d d' w w' := by
 have T := h.cells
 refine (told_stuck w (o := 66) (k := k) T.c67 T.c68 (h.fz _) (h.fz _)).mono ?_
 rintro e w' ⟨rfl, rfl⟩
 exact ⟨rfl, d, h.stuck k⟩
theorem mExitR {s d w R} (h : Rm s d w R) :
 Calls Tryz.prog 98 #[.pointer (some ⟨s.mb, 66, none⟩)] w fun e w' => e = .returned (.tuple #[]) /\ ∃ d', Rm s d' w' { R with fin := 1 } /\ FooR s d d' w w' := by
 have T := h.cells
 refine (told_exit w (o := 66) T.c67 (h.fz _)).mono ?_
 rintro e w' ⟨rfl, rfl⟩
 exact ⟨rfl, d, h.exit⟩
theorem mWordsR {s d w R} (h : Rm s d w R) (k : Int) :
 Calls Tryz.prog 101 #[.pointer (some ⟨s.mb, 66, none⟩), .int .i64 k] w fun e w' => e = .returned (.tuple #[]) /\ ∃ d', Rm s d' w' { R with words := k } /\ FooR s d d' w w' := by
 refine (told_words w (o := 66) (k := k) h.cells.c71 (h.fz _)).mono ?_
 rintro e w' ⟨rfl, rfl⟩
 exact ⟨rfl, d, h.worded k⟩
theorem mDeepR {s d w R} (h : Rm s d w R) (k : Int) :
 Calls Tryz.prog 69 #[.pointer (some ⟨s.mb, 66, none⟩), .int .i64 k] w fun e w' => e = .returned (.tuple #[]) /\ ∃ d', Rm s d' w' { R with deep := max R.deep k } /\ FooR s d d' w w' := by
 refine (told_deep w (o := 66) (k := k) h.cells.c72 (h.fz _)).mono ?_
 rintro e w' ⟨rfl, rfl⟩
 exact ⟨rfl, d, h.deeper _⟩
theorem isBoolR (w : World) (a : Int) : Calls Tryz.prog 94 #[.int .i64 a] w fun e w' => e = .returned (.bool (decide (a = 0 \/ a = 1))) /\ w' = w := by
 by_cases h0 : a = 0
 ·have t : (a == 0) = true := by simp [h0]
  go_enter Tryz.func94, Tryz.ntmps94
  go_wp2_with fail
  go_ret
  exact ⟨by simp [h0], rfl⟩
 ·have t : (a == 0) = false := by simp [h0]
  go_enter Tryz.func94, Tryz.ntmps94
  go_wp2_with fail
  go_ret
  refine ⟨?_, rfl⟩
  by_cases h1 : a = 1
  ·simp [h1]
  ·simp [h0, h1]
set_option maxRecDepth 100000 in
theorem trapIf_no {s d w R} (h : Rm s d w R) (op : Int) (a b c : Nat) (n : Int) :
 Calls Tryz.prog 106 #[.pointer (some ⟨s.mb, 0, none⟩), .bool false, .agg #[.int .i64 op, .int .i64 (a : Int), .int .i64 (b : Int), .int .i64 (c : Int), .int .i64 n]] w fun e w' => e = .returned (.tuple #[]) /\ ∃ d', Rm s d' w' R /\ FooR s d d' w w' := by
 have HK : Hid _ := h.stays
 have hlt := h.lt
 generalize s.mb = mb at *
 clear h
 go_enter Tryz.func106, Tryz.ntmps106
 go_wp2_with fail
 exact bodyPost_end (v := .tuple #[]) (by simp [results, Tryz.results106, go_sem]) rfl ⟨rfl, HK.out _ (by repeat (first | refine Below.alloc ?_ (by first | omega | (simp; done) | (simp; omega)) _ | refine Below.drew ?_ | exact Below.refl _ _))⟩
set_option maxRecDepth 100000 in
set_option maxHeartbeats 4000000 in
theorem trapIf_yes {s d w R} (h : Rm s d w R) (op : Int) (a b c : Nat) (n : Int) :
 Calls Tryz.prog 106 #[.pointer (some ⟨s.mb, 0, none⟩), .bool true, .agg #[.int .i64 op, .int .i64 (a : Int), .int .i64 (b : Int), .int .i64 (c : Int), .int .i64 n]] w fun e w' => e = .returned (.tuple #[]) /\ ∃ d', Rm s d' w' (R.panic n 0) /\ FooR s d d' w w' := by
 obtain ⟨W, hW⟩ : ∃ W, W = w.alloc (.cells #[.int .i64 op, .int .i64 (a : Int), .int .i64 (b : Int), .int .i64 (c : Int), .int .i64 n] 71) := ⟨_, rfl⟩
 have hb1 : Below w.heap.size w W := by rw [hW]; exact below_newR w _
 have hx : W.heap[w.heap.size]? = some (.cells #[.int .i64 op, .int .i64 (a : Int), .int .i64 (b : Int), .int .i64 (c : Int), .int .i64 n] 71 (0, 0)) := by rw [hW]; exact heap_alloc_new _ _
 have l1 : w.heap.size < W.heap.size := (gl hx)
 have H := h.below hb1
 have hlt := h.lt
 have hlW := H.lt
 have y0 : W.cell? ⟨w.heap.size, 0, none⟩ = some (.int .i64 op) := cell_arr hx rfl
 have y1 : W.cell? ⟨w.heap.size, 1, none⟩ = some (.int .i64 (a : Int)) := cell_arr hx rfl
 have y2 : W.cell? ⟨w.heap.size, 2, none⟩ = some (.int .i64 (b : Int)) := cell_arr hx rfl
 have y3 : W.cell? ⟨w.heap.size, 3, none⟩ = some (.int .i64 (c : Int)) := cell_arr hx rfl
 have y4 : W.cell? ⟨w.heap.size, 4, none⟩ = some (.int .i64 n) := cell_arr hx rfl
 have HSW : Hid (∀ w2, Below W.heap.size W w2 -> w2.cell? ⟨w.heap.size, 0, none⟩ = some (.int .i64 op) /\ w2.cell? ⟨w.heap.size, 1, none⟩ = some (.int .i64 (a : Int)) /\ w2.cell? ⟨w.heap.size, 2, none⟩ = some (.int .i64 (b : Int)) /\ w2.cell? ⟨w.heap.size, 3, none⟩ = some (.int .i64 (c : Int)) /\ w2.cell? ⟨w.heap.size, 4, none⟩ = some (.int .i64 n) /\ s.mb < w2.heap.size /\ w.heap.size < w2.heap.size) := fun w2 hb2 => by
  have q := H.below hb2
  have ex := (hb2.block _ l1).trans hx
  exact ⟨cell_arr ex rfl, cell_arr ex rfl, cell_arr ex rfl, cell_arr ex rfl, cell_arr ex rfl, q.lt, (gl ex)⟩
 have HFO : Hid (∀ W2 R2 w2, Below w.heap.size w W2 -> (∃ d', Rm s d' w2 R2 /\ FooR s d d' W2 w2) -> ∃ d', Rm s d' w2 R2 /\ FooR s d d' w w2) := fun W2 R2 w2 hb ⟨d', q1, q2⟩ => ⟨d', q1, (FooR.of_below hb).trans q2⟩
 have HB1 : Hid (Below w.heap.size w W.drew) := hb1.drew
 have HP : Hid _ := mPanicR (H.below (Below.refl _ _).drew) n 0
 obtain ⟨kb, hkb⟩ : ∃ kb, kb = w.heap.size := ⟨_, rfl⟩
 rw [<- hkb] at y0 y1 y2 y3 y4 l1 HSW
 generalize s.mb = mb at *
 clear h H hb1 hx
 go_enter Tryz.func106, Tryz.ntmps106
 go_upto_region 2 with fail
 rw [<- hW, <- hkb]
 clear hW hkb
 have S8 : (fun w' : World => w'.cell? ⟨kb, 0, none⟩ = some (.int .i64 op) /\ w'.cell? ⟨kb, 1, none⟩ = some (.int .i64 (a : Int)) /\ w'.cell? ⟨kb, 2, none⟩ = some (.int .i64 (b : Int)) /\ w'.cell? ⟨kb, 3, none⟩ = some (.int .i64 (c : Int)) /\ w'.cell? ⟨kb, 4, none⟩ = some (.int .i64 n) /\ mb < w'.heap.size /\ kb < w'.heap.size) W.drew := ⟨y0, y1, y2, y3, y4, hlW, l1⟩
 refine lec_start (S := fun w' : World => w'.cell? ⟨kb, 0, none⟩ = some (.int .i64 op) /\ w'.cell? ⟨kb, 1, none⟩ = some (.int .i64 (a : Int)) /\ w'.cell? ⟨kb, 2, none⟩ = some (.int .i64 (b : Int)) /\ w'.cell? ⟨kb, 3, none⟩ = some (.int .i64 (c : Int)) /\ w'.cell? ⟨kb, 4, none⟩ = some (.int .i64 n) /\ mb < w'.heap.size /\ kb < w'.heap.size) (z := 5) (by kernel_rfl) ?_
 show lec _ _ _ _ _ 6 _ _ _
 try simp only [List.size_toArray, List.length_cons, List.length_nil, Array.replicate]
 refine lec_takeP (i := 0) (v := ?v0z) rfl (by kernel_rfl) (by kernel_rfl) (by kernel_rfl) (by kernel_rfl) (fun _ _ _ h => h) (.inl ⟨by rfl, ?hy0z⟩) S8 ?rest0z
 case hy0z =>
  rintro w' _
  go_simp
  all_goals with_reducible rfl
 try simp only [Act.put, List.getElem_toArray, List.getElem_cons_succ, List.getElem_cons_zero, List.setIfInBounds_toArray, List.set_cons_zero, List.set_cons_succ]
 refine lec_takeP (i := 1) (v := ?v1z) rfl (by kernel_rfl) (by kernel_rfl) (by kernel_rfl) (by kernel_rfl) (fun _ _ _ h => h) (.inl ⟨by rfl, ?hy1z⟩) S8 ?rest1z
 case hy1z =>
  rintro w' _
  go_simp
  all_goals with_reducible rfl
 try simp only [Act.put, List.getElem_toArray, List.getElem_cons_succ, List.getElem_cons_zero, List.setIfInBounds_toArray, List.set_cons_zero, List.set_cons_succ]
 refine lec_takeP (i := 2) (v := ?v2z) rfl (by kernel_rfl) (by kernel_rfl) (by kernel_rfl) (by kernel_rfl) (fun _ _ _ h => h) (.inl ⟨by rfl, ?hy2z⟩) S8 ?rest2z
 case hy2z =>
  rintro w' _
  go_simp
  all_goals with_reducible rfl
 try simp only [Act.put, List.getElem_toArray, List.getElem_cons_succ, List.getElem_cons_zero, List.setIfInBounds_toArray, List.set_cons_zero, List.set_cons_succ]
 refine lec_takeP (i := 3) (v := ?v3z) rfl (by kernel_rfl) (by kernel_rfl) (by kernel_rfl) (by kernel_rfl) (fun _ _ _ h => h) (.inl ⟨by rfl, ?hy3z⟩) S8 ?rest3z
 case hy3z =>
  rintro w' _
  go_simp
  all_goals with_reducible rfl
 try simp only [Act.put, List.getElem_toArray, List.getElem_cons_succ, List.getElem_cons_zero, List.setIfInBounds_toArray, List.set_cons_zero, List.set_cons_succ]
 refine lec_takeT [5] (i := 4) (v := ?v4z) rfl (by kernel_rfl) (by kernel_rfl) (by kernel_rfl) (by kernel_rfl) (fun _ _ _ h => h) (.inl ⟨by rfl, ?hy4z⟩) S8 ?rest4z
 case hy4z =>
  rintro w' ⟨g0, g1, g2, g3, g4, g5, g6⟩
  go_simp
  all_goals with_reducible rfl
 try simp only [Act.put, List.getElem_toArray, List.getElem_cons_succ, List.getElem_cons_zero, List.setIfInBounds_toArray, List.set_cons_zero, List.set_cons_succ]
 refine lec_one (i := 5) rfl (by kernel_rfl) ?_
 intro K5 hK5
 rw [if_pos (by rfl)]
 go_simp
 refine Calls.mono HP.out ?_
 rintro e w2 ⟨rfl, h2⟩
 have H2 : Hid _ := h2
 clear h2
 go_simp
 refine hK5 _ _ (fun h => by cases h) ?_
 clear hK5
 try simp only [Act.put, List.getElem_toArray, List.getElem_cons_succ, List.getElem_cons_zero, List.setIfInBounds_toArray, List.set_cons_zero, List.set_cons_succ]
 refine lec_done (by kernel_rfl) ?_
 clear S8
 go_wp2_with fail
 exact bodyPost_end (v := .tuple #[]) (by simp [results, Tryz.results106, go_sem]) rfl ⟨rfl, HFO.out _ _ _ HB1.out H2.out⟩
theorem trapIf_any {s d w R} (h : Rm s d w R) (T : Bool) (op : Int) (a b c : Nat) (n : Int) :
 Calls Tryz.prog 106 #[.pointer (some ⟨s.mb, 0, none⟩), .bool T, .agg #[.int .i64 op, .int .i64 (a : Int), .int .i64 (b : Int), .int .i64 (c : Int), .int .i64 n]] w fun e w' => e = .returned (.tuple #[]) /\ ∃ d', Rm s d' w' (if T = true then R.panic n 0 else R) /\ FooR s d d' w w' := by
 cases T with
 | true => exact trapIf_yes h op a b c n
 | false => exact trapIf_no h op a b c n
set_option maxRecDepth 100000 in
set_option maxHeartbeats 4000000 in
theorem rTrapZ {s d w R} (h : Rm s d w R) (op : Int) (a b c : Nat) (n : Int) (ha : a < 16) :
 Calls Tryz.prog 59 #[.pointer (some ⟨s.mb, 0, none⟩), .agg #[.int .i64 op, .int .i64 (a : Int), .int .i64 (b : Int), .int .i64 (c : Int), .int .i64 n]] w fun e w' => e = .returned (.tuple #[]) /\ ∃ d', Rm s d' w' (if (R.rg.getD a 0 == 0) = true then R.panic n 0 else R) /\ FooR s d d' w w' := by
 obtain ⟨W, hW⟩ : ∃ W, W = w.alloc (.cells #[.int .i64 op, .int .i64 (a : Int), .int .i64 (b : Int), .int .i64 (c : Int), .int .i64 n] 71) := ⟨_, rfl⟩
 have hb1 : Below w.heap.size w W := by rw [hW]; exact below_newR w _
 have hx : W.heap[w.heap.size]? = some (.cells #[.int .i64 op, .int .i64 (a : Int), .int .i64 (b : Int), .int .i64 (c : Int), .int .i64 n] 71 (0, 0)) := by rw [hW]; exact heap_alloc_new _ _
 have l1 : w.heap.size < W.heap.size := (gl hx)
 have H := h.below hb1
 have hlt := h.lt
 have hlW := H.lt
 have hai : (a : Int) < 16 := by omega
 obtain ⟨xa, hxa⟩ : ∃ xa, xa = R.rg.getD a 0 := ⟨_, rfl⟩
 have y0 : W.cell? ⟨w.heap.size, 0, none⟩ = some (.int .i64 op) := cell_arr hx rfl
 have y1 : W.cell? ⟨w.heap.size, 1, none⟩ = some (.int .i64 (a : Int)) := cell_arr hx rfl
 have y2 : W.cell? ⟨w.heap.size, 2, none⟩ = some (.int .i64 (b : Int)) := cell_arr hx rfl
 have y3 : W.cell? ⟨w.heap.size, 3, none⟩ = some (.int .i64 (c : Int)) := cell_arr hx rfl
 have y4 : W.cell? ⟨w.heap.size, 4, none⟩ = some (.int .i64 n) := cell_arr hx rfl
 have ra : W.cell? ⟨s.mb, 42 + a, none⟩ = some (.int .i64 xa) := by rw [hxa]; exact H.reg ha
 have HSW : Hid (∀ w2, Below W.heap.size W w2 -> w2.cell? ⟨w.heap.size, 0, none⟩ = some (.int .i64 op) /\ w2.cell? ⟨w.heap.size, 1, none⟩ = some (.int .i64 (a : Int)) /\ w2.cell? ⟨w.heap.size, 2, none⟩ = some (.int .i64 (b : Int)) /\ w2.cell? ⟨w.heap.size, 3, none⟩ = some (.int .i64 (c : Int)) /\ w2.cell? ⟨w.heap.size, 4, none⟩ = some (.int .i64 n) /\ w2.cell? ⟨s.mb, 42 + a, none⟩ = some (.int .i64 xa) /\ s.mb < w2.heap.size /\ w.heap.size < w2.heap.size) := fun w2 hb2 => by
  have q := H.below hb2
  have ex := (hb2.block _ l1).trans hx
  rw [hxa]
  exact ⟨cell_arr ex rfl, cell_arr ex rfl, cell_arr ex rfl, cell_arr ex rfl, cell_arr ex rfl, q.reg ha, q.lt, (gl ex)⟩
 have HFO : Hid (∀ W2 R2 w2, Below w.heap.size w W2 -> (∃ d', Rm s d' w2 R2 /\ FooR s d d' W2 w2) -> ∃ d', Rm s d' w2 R2 /\ FooR s d d' w w2) := fun W2 R2 w2 hb ⟨d', q1, q2⟩ => ⟨d', q1, (FooR.of_below hb).trans q2⟩
 have HB1 : Hid (Below w.heap.size w W.drew) := hb1.drew
 obtain ⟨T, hT⟩ : ∃ T, T = (xa == 0) := ⟨_, rfl⟩
 rw [<- hxa, <- hT]
 have hT2 := hT.symm
 have HP : Hid _ := trapIf_any (H.below (Below.refl _ _).drew) T op a b c n
 clear hT
 obtain ⟨kb, hkb⟩ : ∃ kb, kb = w.heap.size := ⟨_, rfl⟩
 rw [<- hkb] at y0 y1 y2 y3 y4 l1 HSW
 generalize s.mb = mb at *
 clear h H hb1 hx hxa
 cases T with
 | true =>
   go_enter Tryz.func59, Tryz.ntmps59
   go_upto_region 1 with fail
   rw [<- hW, <- hkb]
   clear hW hkb
   have S8 : (fun w' : World => w'.cell? ⟨kb, 0, none⟩ = some (.int .i64 op) /\ w'.cell? ⟨kb, 1, none⟩ = some (.int .i64 (a : Int)) /\ w'.cell? ⟨kb, 2, none⟩ = some (.int .i64 (b : Int)) /\ w'.cell? ⟨kb, 3, none⟩ = some (.int .i64 (c : Int)) /\ w'.cell? ⟨kb, 4, none⟩ = some (.int .i64 n) /\ w'.cell? ⟨mb, 42 + a, none⟩ = some (.int .i64 xa) /\ mb < w'.heap.size /\ kb < w'.heap.size) W.drew := ⟨y0, y1, y2, y3, y4, ra, hlW, l1⟩
   refine lec_start (S := fun w' : World => w'.cell? ⟨kb, 0, none⟩ = some (.int .i64 op) /\ w'.cell? ⟨kb, 1, none⟩ = some (.int .i64 (a : Int)) /\ w'.cell? ⟨kb, 2, none⟩ = some (.int .i64 (b : Int)) /\ w'.cell? ⟨kb, 3, none⟩ = some (.int .i64 (c : Int)) /\ w'.cell? ⟨kb, 4, none⟩ = some (.int .i64 n) /\ w'.cell? ⟨mb, 42 + a, none⟩ = some (.int .i64 xa) /\ mb < w'.heap.size /\ kb < w'.heap.size) (z := 11) (by kernel_rfl) ?_
   show lec _ _ _ _ _ 12 _ _ _
   try simp only [List.size_toArray, List.length_cons, List.length_nil, Array.replicate]
   refine lec_takeP (i := 0) (v := ?v0zt) rfl (by kernel_rfl) (by kernel_rfl) (by kernel_rfl) (by kernel_rfl) (fun _ _ _ h => h) (.inl ⟨by rfl, ?hy0zt⟩) S8 ?rest0zt
   case hy0zt =>
    rintro w' _
    go_simp
    all_goals with_reducible rfl
   try simp only [Act.put, List.getElem_toArray, List.getElem_cons_succ, List.getElem_cons_zero, List.setIfInBounds_toArray, List.set_cons_zero, List.set_cons_succ]
   refine lec_takeP (i := 1) (v := ?v1zt) rfl (by kernel_rfl) (by kernel_rfl) (by kernel_rfl) (by kernel_rfl) (fun _ _ _ h => h) (.inl ⟨by rfl, ?hy1zt⟩) S8 ?rest1zt
   case hy1zt =>
    rintro w' _
    go_simp
    all_goals with_reducible rfl
   try simp only [Act.put, List.getElem_toArray, List.getElem_cons_succ, List.getElem_cons_zero, List.setIfInBounds_toArray, List.set_cons_zero, List.set_cons_succ]
   refine lec_takeP (i := 2) (v := ?v2zt) rfl (by kernel_rfl) (by kernel_rfl) (by kernel_rfl) (by kernel_rfl) (fun _ _ _ h => h) (.inl ⟨by rfl, ?hy2zt⟩) S8 ?rest2zt
   case hy2zt =>
    rintro w' _
    go_simp
    all_goals with_reducible rfl
   try simp only [Act.put, List.getElem_toArray, List.getElem_cons_succ, List.getElem_cons_zero, List.setIfInBounds_toArray, List.set_cons_zero, List.set_cons_succ]
   refine lec_takeT [7, 8, 9, 11] (i := 3) (v := ?v3zt) rfl (by kernel_rfl) (by kernel_rfl) (by kernel_rfl) (by kernel_rfl) (fun _ _ _ h => h) (.inl ⟨by rfl, ?hy3zt⟩) S8 ?rest3zt
   case hy3zt =>
    rintro w' ⟨g0, g1, g2, g3, g4, g5, g6, g7⟩
    go_simp
    all_goals with_reducible rfl
   try simp only [Act.put, List.getElem_toArray, List.getElem_cons_succ, List.getElem_cons_zero, List.setIfInBounds_toArray, List.set_cons_zero, List.set_cons_succ]
   refine lec_takeP (i := 4) (v := ?v4zt) rfl (by kernel_rfl) (by kernel_rfl) (by kernel_rfl) (by kernel_rfl) (fun _ _ _ h => h) (.inl ⟨by rfl, ?hy4zt⟩) S8 ?rest4zt
   case hy4zt =>
    rintro w' _
    go_simp
    all_goals with_reducible rfl
   try simp only [Act.put, List.getElem_toArray, List.getElem_cons_succ, List.getElem_cons_zero, List.setIfInBounds_toArray, List.set_cons_zero, List.set_cons_succ]
   refine lec_takeP (i := 5) (v := ?v5zt) rfl (by kernel_rfl) (by kernel_rfl) (by kernel_rfl) (by kernel_rfl) (fun _ _ _ h => h) (.inl ⟨by rfl, ?hy5zt⟩) S8 ?rest5zt
   case hy5zt =>
    rintro w' _
    go_simp
    all_goals with_reducible rfl
   try simp only [Act.put, List.getElem_toArray, List.getElem_cons_succ, List.getElem_cons_zero, List.setIfInBounds_toArray, List.set_cons_zero, List.set_cons_succ]
   refine lec_takeP (i := 6) (v := ?v6zt) rfl (by kernel_rfl) (by kernel_rfl) (by kernel_rfl) (by kernel_rfl) (fun _ _ _ h => h) (.inl ⟨by rfl, ?hy6zt⟩) S8 ?rest6zt
   case hy6zt =>
    rintro w' _
    go_simp
    all_goals with_reducible rfl
   try simp only [Act.put, List.getElem_toArray, List.getElem_cons_succ, List.getElem_cons_zero, List.setIfInBounds_toArray, List.set_cons_zero, List.set_cons_succ]
   refine lec_takeP (i := 7) (v := ?v7zt) rfl (by kernel_rfl) (by kernel_rfl) (by kernel_rfl) (by kernel_rfl) (fun _ _ _ h => h) (.inl ⟨by rfl, ?hy7zt⟩) S8 ?rest7zt
   case hy7zt =>
    rintro w' _
    go_simp
    all_goals with_reducible rfl
   try simp only [Act.put, List.getElem_toArray, List.getElem_cons_succ, List.getElem_cons_zero, List.setIfInBounds_toArray, List.set_cons_zero, List.set_cons_succ]
   refine lec_takeT [9, 11] (i := 8) (v := ?v8zt) rfl (by kernel_rfl) (by kernel_rfl) (by kernel_rfl) (by kernel_rfl) (fun _ _ _ h => h) (.inl ⟨by rfl, ?hy8zt⟩) S8 ?rest8zt
   case hy8zt =>
    rintro w' ⟨g0, g1, g2, g3, g4, g5, g6, g7⟩
    go_simp
    all_goals with_reducible rfl
   try simp only [Act.put, List.getElem_toArray, List.getElem_cons_succ, List.getElem_cons_zero, List.setIfInBounds_toArray, List.set_cons_zero, List.set_cons_succ]
   refine lec_takeP (i := 9) (v := ?v9zt) rfl (by kernel_rfl) (by kernel_rfl) (by kernel_rfl) (by kernel_rfl) (fun _ _ _ h => h) (.inl ⟨by rfl, ?hy9zt⟩) S8 ?rest9zt
   case hy9zt =>
    rintro w' _
    go_simp
    all_goals with_reducible rfl
   try simp only [Act.put, List.getElem_toArray, List.getElem_cons_succ, List.getElem_cons_zero, List.setIfInBounds_toArray, List.set_cons_zero, List.set_cons_succ]
   refine lec_takeT [11] (i := 10) (v := ?v10zt) rfl (by kernel_rfl) (by kernel_rfl) (by kernel_rfl) (by kernel_rfl) (fun _ _ _ h => h) (.inl ⟨by rfl, ?hy10zt⟩) S8 ?rest10zt
   case hy10zt =>
    rintro w' ⟨g0, g1, g2, g3, g4, g5, g6, g7⟩
    go_simp
    all_goals with_reducible rfl
   try simp only [Act.put, List.getElem_toArray, List.getElem_cons_succ, List.getElem_cons_zero, List.setIfInBounds_toArray, List.set_cons_zero, List.set_cons_succ]
   refine lec_one (i := 11) rfl (by kernel_rfl) ?_
   intro K11 hK11
   rw [if_pos (by rfl)]
   go_simp
   refine Calls.mono HP.out ?_
   rintro e w2 ⟨rfl, h2⟩
   have H2 : Hid _ := h2
   clear h2
   go_simp
   refine hK11 _ _ (fun h => by cases h) ?_
   clear hK11
   try simp only [Act.put, List.getElem_toArray, List.getElem_cons_succ, List.getElem_cons_zero, List.setIfInBounds_toArray, List.set_cons_zero, List.set_cons_succ]
   refine lec_done (by kernel_rfl) ?_
   clear S8
   go_wp2_with fail
   exact bodyPost_end (v := .tuple #[]) (by simp [results, Tryz.results59, go_sem]) rfl ⟨rfl, HFO.out _ _ _ HB1.out H2.out⟩
 | false =>
   go_enter Tryz.func59, Tryz.ntmps59
   go_upto_region 1 with fail
   rw [<- hW, <- hkb]
   clear hW hkb
   have S8 : (fun w' : World => w'.cell? ⟨kb, 0, none⟩ = some (.int .i64 op) /\ w'.cell? ⟨kb, 1, none⟩ = some (.int .i64 (a : Int)) /\ w'.cell? ⟨kb, 2, none⟩ = some (.int .i64 (b : Int)) /\ w'.cell? ⟨kb, 3, none⟩ = some (.int .i64 (c : Int)) /\ w'.cell? ⟨kb, 4, none⟩ = some (.int .i64 n) /\ w'.cell? ⟨mb, 42 + a, none⟩ = some (.int .i64 xa) /\ mb < w'.heap.size /\ kb < w'.heap.size) W.drew := ⟨y0, y1, y2, y3, y4, ra, hlW, l1⟩
   refine lec_start (S := fun w' : World => w'.cell? ⟨kb, 0, none⟩ = some (.int .i64 op) /\ w'.cell? ⟨kb, 1, none⟩ = some (.int .i64 (a : Int)) /\ w'.cell? ⟨kb, 2, none⟩ = some (.int .i64 (b : Int)) /\ w'.cell? ⟨kb, 3, none⟩ = some (.int .i64 (c : Int)) /\ w'.cell? ⟨kb, 4, none⟩ = some (.int .i64 n) /\ w'.cell? ⟨mb, 42 + a, none⟩ = some (.int .i64 xa) /\ mb < w'.heap.size /\ kb < w'.heap.size) (z := 11) (by kernel_rfl) ?_
   show lec _ _ _ _ _ 12 _ _ _
   try simp only [List.size_toArray, List.length_cons, List.length_nil, Array.replicate]
   refine lec_takeP (i := 0) (v := ?v0zf) rfl (by kernel_rfl) (by kernel_rfl) (by kernel_rfl) (by kernel_rfl) (fun _ _ _ h => h) (.inl ⟨by rfl, ?hy0zf⟩) S8 ?rest0zf
   case hy0zf =>
    rintro w' _
    go_simp
    all_goals with_reducible rfl
   try simp only [Act.put, List.getElem_toArray, List.getElem_cons_succ, List.getElem_cons_zero, List.setIfInBounds_toArray, List.set_cons_zero, List.set_cons_succ]
   refine lec_takeP (i := 1) (v := ?v1zf) rfl (by kernel_rfl) (by kernel_rfl) (by kernel_rfl) (by kernel_rfl) (fun _ _ _ h => h) (.inl ⟨by rfl, ?hy1zf⟩) S8 ?rest1zf
   case hy1zf =>
    rintro w' _
    go_simp
    all_goals with_reducible rfl
   try simp only [Act.put, List.getElem_toArray, List.getElem_cons_succ, List.getElem_cons_zero, List.setIfInBounds_toArray, List.set_cons_zero, List.set_cons_succ]
   refine lec_takeP (i := 2) (v := ?v2zf) rfl (by kernel_rfl) (by kernel_rfl) (by kernel_rfl) (by kernel_rfl) (fun _ _ _ h => h) (.inl ⟨by rfl, ?hy2zf⟩) S8 ?rest2zf
   case hy2zf =>
    rintro w' _
    go_simp
    all_goals with_reducible rfl
   try simp only [Act.put, List.getElem_toArray, List.getElem_cons_succ, List.getElem_cons_zero, List.setIfInBounds_toArray, List.set_cons_zero, List.set_cons_succ]
   refine lec_takeT [7, 8, 9, 11] (i := 3) (v := ?v3zf) rfl (by kernel_rfl) (by kernel_rfl) (by kernel_rfl) (by kernel_rfl) (fun _ _ _ h => h) (.inl ⟨by rfl, ?hy3zf⟩) S8 ?rest3zf
   case hy3zf =>
    rintro w' ⟨g0, g1, g2, g3, g4, g5, g6, g7⟩
    go_simp
    all_goals with_reducible rfl
   try simp only [Act.put, List.getElem_toArray, List.getElem_cons_succ, List.getElem_cons_zero, List.setIfInBounds_toArray, List.set_cons_zero, List.set_cons_succ]
   refine lec_takeP (i := 4) (v := ?v4zf) rfl (by kernel_rfl) (by kernel_rfl) (by kernel_rfl) (by kernel_rfl) (fun _ _ _ h => h) (.inl ⟨by rfl, ?hy4zf⟩) S8 ?rest4zf
   case hy4zf =>
    rintro w' _
    go_simp
    all_goals with_reducible rfl
   try simp only [Act.put, List.getElem_toArray, List.getElem_cons_succ, List.getElem_cons_zero, List.setIfInBounds_toArray, List.set_cons_zero, List.set_cons_succ]
   refine lec_takeP (i := 5) (v := ?v5zf) rfl (by kernel_rfl) (by kernel_rfl) (by kernel_rfl) (by kernel_rfl) (fun _ _ _ h => h) (.inl ⟨by rfl, ?hy5zf⟩) S8 ?rest5zf
   case hy5zf =>
    rintro w' _
    go_simp
    all_goals with_reducible rfl
   try simp only [Act.put, List.getElem_toArray, List.getElem_cons_succ, List.getElem_cons_zero, List.setIfInBounds_toArray, List.set_cons_zero, List.set_cons_succ]
   refine lec_takeP (i := 6) (v := ?v6zf) rfl (by kernel_rfl) (by kernel_rfl) (by kernel_rfl) (by kernel_rfl) (fun _ _ _ h => h) (.inl ⟨by rfl, ?hy6zf⟩) S8 ?rest6zf
   case hy6zf =>
    rintro w' _
    go_simp
    all_goals with_reducible rfl
   try simp only [Act.put, List.getElem_toArray, List.getElem_cons_succ, List.getElem_cons_zero, List.setIfInBounds_toArray, List.set_cons_zero, List.set_cons_succ]
   refine lec_takeP (i := 7) (v := ?v7zf) rfl (by kernel_rfl) (by kernel_rfl) (by kernel_rfl) (by kernel_rfl) (fun _ _ _ h => h) (.inl ⟨by rfl, ?hy7zf⟩) S8 ?rest7zf
   case hy7zf =>
    rintro w' _
    go_simp
    all_goals with_reducible rfl
   try simp only [Act.put, List.getElem_toArray, List.getElem_cons_succ, List.getElem_cons_zero, List.setIfInBounds_toArray, List.set_cons_zero, List.set_cons_succ]
   refine lec_takeT [9, 11] (i := 8) (v := ?v8zf) rfl (by kernel_rfl) (by kernel_rfl) (by kernel_rfl) (by kernel_rfl) (fun _ _ _ h => h) (.inl ⟨by rfl, ?hy8zf⟩) S8 ?rest8zf
   case hy8zf =>
    rintro w' ⟨g0, g1, g2, g3, g4, g5, g6, g7⟩
    go_simp
    all_goals with_reducible rfl
   try simp only [Act.put, List.getElem_toArray, List.getElem_cons_succ, List.getElem_cons_zero, List.setIfInBounds_toArray, List.set_cons_zero, List.set_cons_succ]
   refine lec_takeP (i := 9) (v := ?v9zf) rfl (by kernel_rfl) (by kernel_rfl) (by kernel_rfl) (by kernel_rfl) (fun _ _ _ h => h) (.inl ⟨by rfl, ?hy9zf⟩) S8 ?rest9zf
   case hy9zf =>
    rintro w' _
    go_simp
    all_goals with_reducible rfl
   try simp only [Act.put, List.getElem_toArray, List.getElem_cons_succ, List.getElem_cons_zero, List.setIfInBounds_toArray, List.set_cons_zero, List.set_cons_succ]
   refine lec_takeT [11] (i := 10) (v := ?v10zf) rfl (by kernel_rfl) (by kernel_rfl) (by kernel_rfl) (by kernel_rfl) (fun _ _ _ h => h) (.inl ⟨by rfl, ?hy10zf⟩) S8 ?rest10zf
   case hy10zf =>
    rintro w' ⟨g0, g1, g2, g3, g4, g5, g6, g7⟩
    go_simp
    all_goals with_reducible rfl
   try simp only [Act.put, List.getElem_toArray, List.getElem_cons_succ, List.getElem_cons_zero, List.setIfInBounds_toArray, List.set_cons_zero, List.set_cons_succ]
   refine lec_one (i := 11) rfl (by kernel_rfl) ?_
   intro K11 hK11
   rw [if_pos (by rfl)]
   go_simp
   refine Calls.mono HP.out ?_
   rintro e w2 ⟨rfl, h2⟩
   have H2 : Hid _ := h2
   clear h2
   go_simp
   refine hK11 _ _ (fun h => by cases h) ?_
   clear hK11
   try simp only [Act.put, List.getElem_toArray, List.getElem_cons_succ, List.getElem_cons_zero, List.setIfInBounds_toArray, List.set_cons_zero, List.set_cons_succ]
   refine lec_done (by kernel_rfl) ?_
   clear S8
   go_wp2_with fail
   exact bodyPost_end (v := .tuple #[]) (by simp [results, Tryz.results59, go_sem]) rfl ⟨rfl, HFO.out _ _ _ HB1.out H2.out⟩
set_option maxRecDepth 100000 in
set_option maxHeartbeats 4000000 in
theorem rTrapN {s d w R} (h : Rm s d w R) (op : Int) (a b c : Nat) (n : Int) (ha : a < 16) :
 Calls Tryz.prog 60 #[.pointer (some ⟨s.mb, 0, none⟩), .agg #[.int .i64 op, .int .i64 (a : Int), .int .i64 (b : Int), .int .i64 (c : Int), .int .i64 n]] w fun e w' => e = .returned (.tuple #[]) /\ ∃ d', Rm s d' w' (if (decide (R.rg.getD a 0 < 0)) = true then R.panic n 0 else R) /\ FooR s d d' w w' := by
 obtain ⟨W, hW⟩ : ∃ W, W = w.alloc (.cells #[.int .i64 op, .int .i64 (a : Int), .int .i64 (b : Int), .int .i64 (c : Int), .int .i64 n] 71) := ⟨_, rfl⟩
 have hb1 : Below w.heap.size w W := by rw [hW]; exact below_newR w _
 have hx : W.heap[w.heap.size]? = some (.cells #[.int .i64 op, .int .i64 (a : Int), .int .i64 (b : Int), .int .i64 (c : Int), .int .i64 n] 71 (0, 0)) := by rw [hW]; exact heap_alloc_new _ _
 have l1 : w.heap.size < W.heap.size := (gl hx)
 have H := h.below hb1
 have hlt := h.lt
 have hlW := H.lt
 have hai : (a : Int) < 16 := by omega
 obtain ⟨xa, hxa⟩ : ∃ xa, xa = R.rg.getD a 0 := ⟨_, rfl⟩
 have y0 : W.cell? ⟨w.heap.size, 0, none⟩ = some (.int .i64 op) := cell_arr hx rfl
 have y1 : W.cell? ⟨w.heap.size, 1, none⟩ = some (.int .i64 (a : Int)) := cell_arr hx rfl
 have y2 : W.cell? ⟨w.heap.size, 2, none⟩ = some (.int .i64 (b : Int)) := cell_arr hx rfl
 have y3 : W.cell? ⟨w.heap.size, 3, none⟩ = some (.int .i64 (c : Int)) := cell_arr hx rfl
 have y4 : W.cell? ⟨w.heap.size, 4, none⟩ = some (.int .i64 n) := cell_arr hx rfl
 have ra : W.cell? ⟨s.mb, 42 + a, none⟩ = some (.int .i64 xa) := by rw [hxa]; exact H.reg ha
 have HSW : Hid (∀ w2, Below W.heap.size W w2 -> w2.cell? ⟨w.heap.size, 0, none⟩ = some (.int .i64 op) /\ w2.cell? ⟨w.heap.size, 1, none⟩ = some (.int .i64 (a : Int)) /\ w2.cell? ⟨w.heap.size, 2, none⟩ = some (.int .i64 (b : Int)) /\ w2.cell? ⟨w.heap.size, 3, none⟩ = some (.int .i64 (c : Int)) /\ w2.cell? ⟨w.heap.size, 4, none⟩ = some (.int .i64 n) /\ w2.cell? ⟨s.mb, 42 + a, none⟩ = some (.int .i64 xa) /\ s.mb < w2.heap.size /\ w.heap.size < w2.heap.size) := fun w2 hb2 => by
  have q := H.below hb2
  have ex := (hb2.block _ l1).trans hx
  rw [hxa]
  exact ⟨cell_arr ex rfl, cell_arr ex rfl, cell_arr ex rfl, cell_arr ex rfl, cell_arr ex rfl, q.reg ha, q.lt, (gl ex)⟩
 have HFO : Hid (∀ W2 R2 w2, Below w.heap.size w W2 -> (∃ d', Rm s d' w2 R2 /\ FooR s d d' W2 w2) -> ∃ d', Rm s d' w2 R2 /\ FooR s d d' w w2) := fun W2 R2 w2 hb ⟨d', q1, q2⟩ => ⟨d', q1, (FooR.of_below hb).trans q2⟩
 have HB1 : Hid (Below w.heap.size w W.drew) := hb1.drew
 obtain ⟨T, hT⟩ : ∃ T, T = (decide (xa < 0)) := ⟨_, rfl⟩
 rw [<- hxa, <- hT]
 have hT2 := hT.symm
 have HP : Hid _ := trapIf_any (H.below (Below.refl _ _).drew) T op a b c n
 clear hT
 obtain ⟨kb, hkb⟩ : ∃ kb, kb = w.heap.size := ⟨_, rfl⟩
 rw [<- hkb] at y0 y1 y2 y3 y4 l1 HSW
 generalize s.mb = mb at *
 clear h H hb1 hx hxa
 cases T with
 | true =>
   go_enter Tryz.func60, Tryz.ntmps60
   go_upto_region 1 with fail
   rw [<- hW, <- hkb]
   clear hW hkb
   have S8 : (fun w' : World => w'.cell? ⟨kb, 0, none⟩ = some (.int .i64 op) /\ w'.cell? ⟨kb, 1, none⟩ = some (.int .i64 (a : Int)) /\ w'.cell? ⟨kb, 2, none⟩ = some (.int .i64 (b : Int)) /\ w'.cell? ⟨kb, 3, none⟩ = some (.int .i64 (c : Int)) /\ w'.cell? ⟨kb, 4, none⟩ = some (.int .i64 n) /\ w'.cell? ⟨mb, 42 + a, none⟩ = some (.int .i64 xa) /\ mb < w'.heap.size /\ kb < w'.heap.size) W.drew := ⟨y0, y1, y2, y3, y4, ra, hlW, l1⟩
   refine lec_start (S := fun w' : World => w'.cell? ⟨kb, 0, none⟩ = some (.int .i64 op) /\ w'.cell? ⟨kb, 1, none⟩ = some (.int .i64 (a : Int)) /\ w'.cell? ⟨kb, 2, none⟩ = some (.int .i64 (b : Int)) /\ w'.cell? ⟨kb, 3, none⟩ = some (.int .i64 (c : Int)) /\ w'.cell? ⟨kb, 4, none⟩ = some (.int .i64 n) /\ w'.cell? ⟨mb, 42 + a, none⟩ = some (.int .i64 xa) /\ mb < w'.heap.size /\ kb < w'.heap.size) (z := 11) (by kernel_rfl) ?_
   show lec _ _ _ _ _ 12 _ _ _
   try simp only [List.size_toArray, List.length_cons, List.length_nil, Array.replicate]
   refine lec_takeP (i := 0) (v := ?v0zt) rfl (by kernel_rfl) (by kernel_rfl) (by kernel_rfl) (by kernel_rfl) (fun _ _ _ h => h) (.inl ⟨by rfl, ?hy0zt⟩) S8 ?rest0zt
   case hy0zt =>
    rintro w' _
    go_simp
    all_goals with_reducible rfl
   try simp only [Act.put, List.getElem_toArray, List.getElem_cons_succ, List.getElem_cons_zero, List.setIfInBounds_toArray, List.set_cons_zero, List.set_cons_succ]
   refine lec_takeP (i := 1) (v := ?v1zt) rfl (by kernel_rfl) (by kernel_rfl) (by kernel_rfl) (by kernel_rfl) (fun _ _ _ h => h) (.inl ⟨by rfl, ?hy1zt⟩) S8 ?rest1zt
   case hy1zt =>
    rintro w' _
    go_simp
    all_goals with_reducible rfl
   try simp only [Act.put, List.getElem_toArray, List.getElem_cons_succ, List.getElem_cons_zero, List.setIfInBounds_toArray, List.set_cons_zero, List.set_cons_succ]
   refine lec_takeP (i := 2) (v := ?v2zt) rfl (by kernel_rfl) (by kernel_rfl) (by kernel_rfl) (by kernel_rfl) (fun _ _ _ h => h) (.inl ⟨by rfl, ?hy2zt⟩) S8 ?rest2zt
   case hy2zt =>
    rintro w' _
    go_simp
    all_goals with_reducible rfl
   try simp only [Act.put, List.getElem_toArray, List.getElem_cons_succ, List.getElem_cons_zero, List.setIfInBounds_toArray, List.set_cons_zero, List.set_cons_succ]
   refine lec_takeT [7, 8, 9, 11] (i := 3) (v := ?v3zt) rfl (by kernel_rfl) (by kernel_rfl) (by kernel_rfl) (by kernel_rfl) (fun _ _ _ h => h) (.inl ⟨by rfl, ?hy3zt⟩) S8 ?rest3zt
   case hy3zt =>
    rintro w' ⟨g0, g1, g2, g3, g4, g5, g6, g7⟩
    go_simp
    all_goals with_reducible rfl
   try simp only [Act.put, List.getElem_toArray, List.getElem_cons_succ, List.getElem_cons_zero, List.setIfInBounds_toArray, List.set_cons_zero, List.set_cons_succ]
   refine lec_takeP (i := 4) (v := ?v4zt) rfl (by kernel_rfl) (by kernel_rfl) (by kernel_rfl) (by kernel_rfl) (fun _ _ _ h => h) (.inl ⟨by rfl, ?hy4zt⟩) S8 ?rest4zt
   case hy4zt =>
    rintro w' _
    go_simp
    all_goals with_reducible rfl
   try simp only [Act.put, List.getElem_toArray, List.getElem_cons_succ, List.getElem_cons_zero, List.setIfInBounds_toArray, List.set_cons_zero, List.set_cons_succ]
   refine lec_takeP (i := 5) (v := ?v5zt) rfl (by kernel_rfl) (by kernel_rfl) (by kernel_rfl) (by kernel_rfl) (fun _ _ _ h => h) (.inl ⟨by rfl, ?hy5zt⟩) S8 ?rest5zt
   case hy5zt =>
    rintro w' _
    go_simp
    all_goals with_reducible rfl
   try simp only [Act.put, List.getElem_toArray, List.getElem_cons_succ, List.getElem_cons_zero, List.setIfInBounds_toArray, List.set_cons_zero, List.set_cons_succ]
   refine lec_takeP (i := 6) (v := ?v6zt) rfl (by kernel_rfl) (by kernel_rfl) (by kernel_rfl) (by kernel_rfl) (fun _ _ _ h => h) (.inl ⟨by rfl, ?hy6zt⟩) S8 ?rest6zt
   case hy6zt =>
    rintro w' _
    go_simp
    all_goals with_reducible rfl
   try simp only [Act.put, List.getElem_toArray, List.getElem_cons_succ, List.getElem_cons_zero, List.setIfInBounds_toArray, List.set_cons_zero, List.set_cons_succ]
   refine lec_takeP (i := 7) (v := ?v7zt) rfl (by kernel_rfl) (by kernel_rfl) (by kernel_rfl) (by kernel_rfl) (fun _ _ _ h => h) (.inl ⟨by rfl, ?hy7zt⟩) S8 ?rest7zt
   case hy7zt =>
    rintro w' _
    go_simp
    all_goals with_reducible rfl
   try simp only [Act.put, List.getElem_toArray, List.getElem_cons_succ, List.getElem_cons_zero, List.setIfInBounds_toArray, List.set_cons_zero, List.set_cons_succ]
   refine lec_takeT [9, 11] (i := 8) (v := ?v8zt) rfl (by kernel_rfl) (by kernel_rfl) (by kernel_rfl) (by kernel_rfl) (fun _ _ _ h => h) (.inl ⟨by rfl, ?hy8zt⟩) S8 ?rest8zt
   case hy8zt =>
    rintro w' ⟨g0, g1, g2, g3, g4, g5, g6, g7⟩
    go_simp
    all_goals with_reducible rfl
   try simp only [Act.put, List.getElem_toArray, List.getElem_cons_succ, List.getElem_cons_zero, List.setIfInBounds_toArray, List.set_cons_zero, List.set_cons_succ]
   refine lec_takeP (i := 9) (v := ?v9zt) rfl (by kernel_rfl) (by kernel_rfl) (by kernel_rfl) (by kernel_rfl) (fun _ _ _ h => h) (.inl ⟨by rfl, ?hy9zt⟩) S8 ?rest9zt
   case hy9zt =>
    rintro w' _
    go_simp
    all_goals with_reducible rfl
   try simp only [Act.put, List.getElem_toArray, List.getElem_cons_succ, List.getElem_cons_zero, List.setIfInBounds_toArray, List.set_cons_zero, List.set_cons_succ]
   refine lec_takeT [11] (i := 10) (v := ?v10zt) rfl (by kernel_rfl) (by kernel_rfl) (by kernel_rfl) (by kernel_rfl) (fun _ _ _ h => h) (.inl ⟨by rfl, ?hy10zt⟩) S8 ?rest10zt
   case hy10zt =>
    rintro w' ⟨g0, g1, g2, g3, g4, g5, g6, g7⟩
    go_simp
    all_goals with_reducible rfl
   try simp only [Act.put, List.getElem_toArray, List.getElem_cons_succ, List.getElem_cons_zero, List.setIfInBounds_toArray, List.set_cons_zero, List.set_cons_succ]
   refine lec_one (i := 11) rfl (by kernel_rfl) ?_
   intro K11 hK11
   rw [if_pos (by rfl)]
   go_simp
   refine Calls.mono HP.out ?_
   rintro e w2 ⟨rfl, h2⟩
   have H2 : Hid _ := h2
   clear h2
   go_simp
   refine hK11 _ _ (fun h => by cases h) ?_
   clear hK11
   try simp only [Act.put, List.getElem_toArray, List.getElem_cons_succ, List.getElem_cons_zero, List.setIfInBounds_toArray, List.set_cons_zero, List.set_cons_succ]
   refine lec_done (by kernel_rfl) ?_
   clear S8
   go_wp2_with fail
   exact bodyPost_end (v := .tuple #[]) (by simp [results, Tryz.results60, go_sem]) rfl ⟨rfl, HFO.out _ _ _ HB1.out H2.out⟩
 | false =>
   go_enter Tryz.func60, Tryz.ntmps60
   go_upto_region 1 with fail
   rw [<- hW, <- hkb]
   clear hW hkb
   have S8 : (fun w' : World => w'.cell? ⟨kb, 0, none⟩ = some (.int .i64 op) /\ w'.cell? ⟨kb, 1, none⟩ = some (.int .i64 (a : Int)) /\ w'.cell? ⟨kb, 2, none⟩ = some (.int .i64 (b : Int)) /\ w'.cell? ⟨kb, 3, none⟩ = some (.int .i64 (c : Int)) /\ w'.cell? ⟨kb, 4, none⟩ = some (.int .i64 n) /\ w'.cell? ⟨mb, 42 + a, none⟩ = some (.int .i64 xa) /\ mb < w'.heap.size /\ kb < w'.heap.size) W.drew := ⟨y0, y1, y2, y3, y4, ra, hlW, l1⟩
   refine lec_start (S := fun w' : World => w'.cell? ⟨kb, 0, none⟩ = some (.int .i64 op) /\ w'.cell? ⟨kb, 1, none⟩ = some (.int .i64 (a : Int)) /\ w'.cell? ⟨kb, 2, none⟩ = some (.int .i64 (b : Int)) /\ w'.cell? ⟨kb, 3, none⟩ = some (.int .i64 (c : Int)) /\ w'.cell? ⟨kb, 4, none⟩ = some (.int .i64 n) /\ w'.cell? ⟨mb, 42 + a, none⟩ = some (.int .i64 xa) /\ mb < w'.heap.size /\ kb < w'.heap.size) (z := 11) (by kernel_rfl) ?_
   show lec _ _ _ _ _ 12 _ _ _
   try simp only [List.size_toArray, List.length_cons, List.length_nil, Array.replicate]
   refine lec_takeP (i := 0) (v := ?v0zf) rfl (by kernel_rfl) (by kernel_rfl) (by kernel_rfl) (by kernel_rfl) (fun _ _ _ h => h) (.inl ⟨by rfl, ?hy0zf⟩) S8 ?rest0zf
   case hy0zf =>
    rintro w' _
    go_simp
    all_goals with_reducible rfl
   try simp only [Act.put, List.getElem_toArray, List.getElem_cons_succ, List.getElem_cons_zero, List.setIfInBounds_toArray, List.set_cons_zero, List.set_cons_succ]
   refine lec_takeP (i := 1) (v := ?v1zf) rfl (by kernel_rfl) (by kernel_rfl) (by kernel_rfl) (by kernel_rfl) (fun _ _ _ h => h) (.inl ⟨by rfl, ?hy1zf⟩) S8 ?rest1zf
   case hy1zf =>
    rintro w' _
    go_simp
    all_goals with_reducible rfl
   try simp only [Act.put, List.getElem_toArray, List.getElem_cons_succ, List.getElem_cons_zero, List.setIfInBounds_toArray, List.set_cons_zero, List.set_cons_succ]
   refine lec_takeP (i := 2) (v := ?v2zf) rfl (by kernel_rfl) (by kernel_rfl) (by kernel_rfl) (by kernel_rfl) (fun _ _ _ h => h) (.inl ⟨by rfl, ?hy2zf⟩) S8 ?rest2zf
   case hy2zf =>
    rintro w' _
    go_simp
    all_goals with_reducible rfl
   try simp only [Act.put, List.getElem_toArray, List.getElem_cons_succ, List.getElem_cons_zero, List.setIfInBounds_toArray, List.set_cons_zero, List.set_cons_succ]
   refine lec_takeT [7, 8, 9, 11] (i := 3) (v := ?v3zf) rfl (by kernel_rfl) (by kernel_rfl) (by kernel_rfl) (by kernel_rfl) (fun _ _ _ h => h) (.inl ⟨by rfl, ?hy3zf⟩) S8 ?rest3zf
   case hy3zf =>
    rintro w' ⟨g0, g1, g2, g3, g4, g5, g6, g7⟩
    go_simp
    all_goals with_reducible rfl
   try simp only [Act.put, List.getElem_toArray, List.getElem_cons_succ, List.getElem_cons_zero, List.setIfInBounds_toArray, List.set_cons_zero, List.set_cons_succ]
   refine lec_takeP (i := 4) (v := ?v4zf) rfl (by kernel_rfl) (by kernel_rfl) (by kernel_rfl) (by kernel_rfl) (fun _ _ _ h => h) (.inl ⟨by rfl, ?hy4zf⟩) S8 ?rest4zf
   case hy4zf =>
    rintro w' _
    go_simp
    all_goals with_reducible rfl
   try simp only [Act.put, List.getElem_toArray, List.getElem_cons_succ, List.getElem_cons_zero, List.setIfInBounds_toArray, List.set_cons_zero, List.set_cons_succ]
   refine lec_takeP (i := 5) (v := ?v5zf) rfl (by kernel_rfl) (by kernel_rfl) (by kernel_rfl) (by kernel_rfl) (fun _ _ _ h => h) (.inl ⟨by rfl, ?hy5zf⟩) S8 ?rest5zf
   case hy5zf =>
    rintro w' _
    go_simp
    all_goals with_reducible rfl
   try simp only [Act.put, List.getElem_toArray, List.getElem_cons_succ, List.getElem_cons_zero, List.setIfInBounds_toArray, List.set_cons_zero, List.set_cons_succ]
   refine lec_takeP (i := 6) (v := ?v6zf) rfl (by kernel_rfl) (by kernel_rfl) (by kernel_rfl) (by kernel_rfl) (fun _ _ _ h => h) (.inl ⟨by rfl, ?hy6zf⟩) S8 ?rest6zf
   case hy6zf =>
    rintro w' _
    go_simp
    all_goals with_reducible rfl
   try simp only [Act.put, List.getElem_toArray, List.getElem_cons_succ, List.getElem_cons_zero, List.setIfInBounds_toArray, List.set_cons_zero, List.set_cons_succ]
   refine lec_takeP (i := 7) (v := ?v7zf) rfl (by kernel_rfl) (by kernel_rfl) (by kernel_rfl) (by kernel_rfl) (fun _ _ _ h => h) (.inl ⟨by rfl, ?hy7zf⟩) S8 ?rest7zf
   case hy7zf =>
    rintro w' _
    go_simp
    all_goals with_reducible rfl
   try simp only [Act.put, List.getElem_toArray, List.getElem_cons_succ, List.getElem_cons_zero, List.setIfInBounds_toArray, List.set_cons_zero, List.set_cons_succ]
   refine lec_takeT [9, 11] (i := 8) (v := ?v8zf) rfl (by kernel_rfl) (by kernel_rfl) (by kernel_rfl) (by kernel_rfl) (fun _ _ _ h => h) (.inl ⟨by rfl, ?hy8zf⟩) S8 ?rest8zf
   case hy8zf =>
    rintro w' ⟨g0, g1, g2, g3, g4, g5, g6, g7⟩
    go_simp
    all_goals with_reducible rfl
   try simp only [Act.put, List.getElem_toArray, List.getElem_cons_succ, List.getElem_cons_zero, List.setIfInBounds_toArray, List.set_cons_zero, List.set_cons_succ]
   refine lec_takeP (i := 9) (v := ?v9zf) rfl (by kernel_rfl) (by kernel_rfl) (by kernel_rfl) (by kernel_rfl) (fun _ _ _ h => h) (.inl ⟨by rfl, ?hy9zf⟩) S8 ?rest9zf
   case hy9zf =>
    rintro w' _
    go_simp
    all_goals with_reducible rfl
   try simp only [Act.put, List.getElem_toArray, List.getElem_cons_succ, List.getElem_cons_zero, List.setIfInBounds_toArray, List.set_cons_zero, List.set_cons_succ]
   refine lec_takeT [11] (i := 10) (v := ?v10zf) rfl (by kernel_rfl) (by kernel_rfl) (by kernel_rfl) (by kernel_rfl) (fun _ _ _ h => h) (.inl ⟨by rfl, ?hy10zf⟩) S8 ?rest10zf
   case hy10zf =>
    rintro w' ⟨g0, g1, g2, g3, g4, g5, g6, g7⟩
    go_simp
    all_goals with_reducible rfl
   try simp only [Act.put, List.getElem_toArray, List.getElem_cons_succ, List.getElem_cons_zero, List.setIfInBounds_toArray, List.set_cons_zero, List.set_cons_succ]
   refine lec_one (i := 11) rfl (by kernel_rfl) ?_
   intro K11 hK11
   rw [if_pos (by rfl)]
   go_simp
   refine Calls.mono HP.out ?_
   rintro e w2 ⟨rfl, h2⟩
   have H2 : Hid _ := h2
   clear h2
   go_simp
   refine hK11 _ _ (fun h => by cases h) ?_
   clear hK11
   try simp only [Act.put, List.getElem_toArray, List.getElem_cons_succ, List.getElem_cons_zero, List.setIfInBounds_toArray, List.set_cons_zero, List.set_cons_succ]
   refine lec_done (by kernel_rfl) ?_
   clear S8
   go_wp2_with fail
   exact bodyPost_end (v := .tuple #[]) (by simp [results, Tryz.results60, go_sem]) rfl ⟨rfl, HFO.out _ _ _ HB1.out H2.out⟩
end Go.Proofs.YtfofmmkihhnfmaaGreatDoor
