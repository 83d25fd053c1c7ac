import Derived.Test.YtfofmmkihhnfmaaGreatDoorJaq
set_option linter.unusedVariables false
set_option linter.unusedSimpArgs false
namespace Go.Proofs.YtfofmmkihhnfmaaGreatDoor
open Go.ChangeShapes Go.WideShapes Go.ChangeAt Go.RowKit Go.Maps
set_option maxRecDepth 100000 in
set_option maxHeartbeats 4000000 in
theorem rAlloc_st {s d w R} (h : Rm s d w R) (op : Int) (a b c : Nat) (n : Int) (hb : b < 16) (hq : R.rg.getD b 0 < 0) :
 Calls Tryz.prog 55 #[.pointer (some ⟨s.mb, 0, none⟩), .agg #[.int .i64 op, .int .i64 (a : Int), .int .i64 (b : Int), .int .i64 (c : Int), .int .i64 n]] w fun e w' => e = .panicked [{ v := .iface 137 (.int .i64 1), recovered := false }] /\ Below w.heap.size w w' := by
 obtain ⟨W, hW⟩ : ∃ W, W = w.alloc (.cells #[.int .i64 op, .int .i64 (a : Int), .int .i64 (b : Int), .int .i64 (c : Int), .int .i64 n] 71) := ⟨_, rfl⟩
 have hb1 : Below w.heap.size w W := by rw [hW]; exact below_newR w _
 have hx : W.heap[w.heap.size]? = some (.cells #[.int .i64 op, .int .i64 (a : Int), .int .i64 (b : Int), .int .i64 (c : Int), .int .i64 n] 71 (0, 0)) := by rw [hW]; exact heap_alloc_new _ _
 have l1 : w.heap.size < W.heap.size := (gl hx)
 have H := h.below hb1
 have hlt := h.lt
 have hlW := H.lt
 have hbi : (b : Int) < 16 := by omega
 obtain ⟨xb, hxb⟩ : ∃ xb, xb = R.rg.getD b 0 := ⟨_, rfl⟩
 have y0 : W.cell? ⟨w.heap.size, 0, none⟩ = some (.int .i64 op) := cell_arr hx rfl
 have y1 : W.cell? ⟨w.heap.size, 1, none⟩ = some (.int .i64 (a : Int)) := cell_arr hx rfl
 have y2 : W.cell? ⟨w.heap.size, 2, none⟩ = some (.int .i64 (b : Int)) := cell_arr hx rfl
 have y3 : W.cell? ⟨w.heap.size, 3, none⟩ = some (.int .i64 (c : Int)) := cell_arr hx rfl
 have y4 : W.cell? ⟨w.heap.size, 4, none⟩ = some (.int .i64 n) := cell_arr hx rfl
 have rb : W.cell? ⟨s.mb, 42 + b, none⟩ = some (.int .i64 xb) := by rw [hxb]; exact H.reg hb
 have c63 : W.cell? ⟨s.mb, 63, none⟩ = some (.pointer (some ⟨s.hb, 0, none⟩)) := by exact H.cells.c63
 have c64 : W.cell? ⟨s.mb, 64, none⟩ = some (.int .i64 s.room) := by exact H.cells.c64
 have HSW : Hid (∀ w2, Below W.heap.size W w2 -> w2.cell? ⟨w.heap.size, 0, none⟩ = some (.int .i64 op) /\ w2.cell? ⟨w.heap.size, 1, none⟩ = some (.int .i64 (a : Int)) /\ w2.cell? ⟨w.heap.size, 2, none⟩ = some (.int .i64 (b : Int)) /\ w2.cell? ⟨w.heap.size, 3, none⟩ = some (.int .i64 (c : Int)) /\ w2.cell? ⟨w.heap.size, 4, none⟩ = some (.int .i64 n) /\ w2.cell? ⟨s.mb, 42 + b, none⟩ = some (.int .i64 xb) /\ w2.cell? ⟨s.mb, 63, none⟩ = some (.pointer (some ⟨s.hb, 0, none⟩)) /\ w2.cell? ⟨s.mb, 64, none⟩ = some (.int .i64 s.room) /\ s.mb < w2.heap.size /\ w.heap.size < w2.heap.size) := fun w2 hb2 => by
  have q := H.below hb2
  have ex := (hb2.block _ l1).trans hx
  rw [hxb]
  exact ⟨cell_arr ex rfl, cell_arr ex rfl, cell_arr ex rfl, cell_arr ex rfl, cell_arr ex rfl, q.reg hb, q.cells.c63, q.cells.c64, q.lt, (gl ex)⟩
 have z0 : decide (xb < 0) = true := decide_eq_true (by rw [hxb]; exact hq)
 have HST : Hid (Below w.heap.size w W.drew) := hb1.drew
 clear hq
 obtain ⟨kb, hkb⟩ : ∃ kb, kb = w.heap.size := ⟨_, rfl⟩
 rw [<- hkb] at y0 y1 y2 y3 y4 l1 HSW
 generalize s.mb = mb at *
 clear h H hb1 hx hxb
 go_enter Tryz.func55, Tryz.ntmps55
 go_upto_region 1 with fail
 rw [<- hW, <- hkb]
 clear hW hkb
 have S8 : (fun w' : World => w'.cell? ⟨kb, 0, none⟩ = some (.int .i64 op) /\ w'.cell? ⟨kb, 1, none⟩ = some (.int .i64 (a : Int)) /\ w'.cell? ⟨kb, 2, none⟩ = some (.int .i64 (b : Int)) /\ w'.cell? ⟨kb, 3, none⟩ = some (.int .i64 (c : Int)) /\ w'.cell? ⟨kb, 4, none⟩ = some (.int .i64 n) /\ w'.cell? ⟨mb, 42 + b, none⟩ = some (.int .i64 xb) /\ w'.cell? ⟨mb, 63, none⟩ = some (.pointer (some ⟨s.hb, 0, none⟩)) /\ w'.cell? ⟨mb, 64, none⟩ = some (.int .i64 s.room) /\ mb < w'.heap.size /\ kb < w'.heap.size) W.drew := ⟨y0, y1, y2, y3, y4, rb, c63, c64, hlW, l1⟩
 refine lec_start (S := fun w' : World => w'.cell? ⟨kb, 0, none⟩ = some (.int .i64 op) /\ w'.cell? ⟨kb, 1, none⟩ = some (.int .i64 (a : Int)) /\ w'.cell? ⟨kb, 2, none⟩ = some (.int .i64 (b : Int)) /\ w'.cell? ⟨kb, 3, none⟩ = some (.int .i64 (c : Int)) /\ w'.cell? ⟨kb, 4, none⟩ = some (.int .i64 n) /\ w'.cell? ⟨mb, 42 + b, none⟩ = some (.int .i64 xb) /\ w'.cell? ⟨mb, 63, none⟩ = some (.pointer (some ⟨s.hb, 0, none⟩)) /\ w'.cell? ⟨mb, 64, none⟩ = some (.int .i64 s.room) /\ mb < w'.heap.size /\ kb < w'.heap.size) (z := 8) (by kernel_rfl) ?_
 show lec _ _ _ _ _ 9 _ _ _
 try simp only [List.size_toArray, List.length_cons, List.length_nil, Array.replicate]
 refine lec_takeP (i := 0) (v := ?v0z) rfl (by kernel_rfl) (by kernel_rfl) (by kernel_rfl) (by kernel_rfl) (fun _ _ _ h => h) (.inl ⟨by rfl, ?hy0z⟩) S8 ?rest0z
 case hy0z =>
  rintro w' _
  go_simp
  all_goals with_reducible rfl
 try simp only [Act.put, List.getElem_toArray, List.getElem_cons_succ, List.getElem_cons_zero, List.setIfInBounds_toArray, List.set_cons_zero, List.set_cons_succ]
 refine lec_takeP (i := 1) (v := ?v1z) rfl (by kernel_rfl) (by kernel_rfl) (by kernel_rfl) (by kernel_rfl) (fun _ _ _ h => h) (.inl ⟨by rfl, ?hy1z⟩) S8 ?rest1z
 case hy1z =>
  rintro w' _
  go_simp
  all_goals with_reducible rfl
 try simp only [Act.put, List.getElem_toArray, List.getElem_cons_succ, List.getElem_cons_zero, List.setIfInBounds_toArray, List.set_cons_zero, List.set_cons_succ]
 refine lec_takeT [6, 7, 8] (i := 2) (v := ?v2z) rfl (by kernel_rfl) (by kernel_rfl) (by kernel_rfl) (by kernel_rfl) (fun _ _ _ h => h) (.inl ⟨by rfl, ?hy2z⟩) S8 ?rest2z
 case hy2z =>
  rintro w' ⟨g0, g1, g2, g3, g4, g5, g6, g7, g8, g9⟩
  go_simp
  all_goals with_reducible rfl
 try simp only [Act.put, List.getElem_toArray, List.getElem_cons_succ, List.getElem_cons_zero, List.setIfInBounds_toArray, List.set_cons_zero, List.set_cons_succ]
 refine lec_takeP (i := 3) (v := ?v3z) rfl (by kernel_rfl) (by kernel_rfl) (by kernel_rfl) (by kernel_rfl) (fun _ _ _ h => h) (.inl ⟨by rfl, ?hy3z⟩) S8 ?rest3z
 case hy3z =>
  rintro w' _
  go_simp
  all_goals with_reducible rfl
 try simp only [Act.put, List.getElem_toArray, List.getElem_cons_succ, List.getElem_cons_zero, List.setIfInBounds_toArray, List.set_cons_zero, List.set_cons_succ]
 refine lec_takeP (i := 4) (v := ?v4z) rfl (by kernel_rfl) (by kernel_rfl) (by kernel_rfl) (by kernel_rfl) (fun _ _ _ h => h) (.inl ⟨by rfl, ?hy4z⟩) S8 ?rest4z
 case hy4z =>
  rintro w' _
  go_simp
  all_goals with_reducible rfl
 try simp only [Act.put, List.getElem_toArray, List.getElem_cons_succ, List.getElem_cons_zero, List.setIfInBounds_toArray, List.set_cons_zero, List.set_cons_succ]
 refine lec_takeP (i := 5) (v := ?v5z) rfl (by kernel_rfl) (by kernel_rfl) (by kernel_rfl) (by kernel_rfl) (fun _ _ _ h => h) (.inl ⟨by rfl, ?hy5z⟩) S8 ?rest5z
 case hy5z =>
  rintro w' _
  go_simp
  all_goals with_reducible rfl
 try simp only [Act.put, List.getElem_toArray, List.getElem_cons_succ, List.getElem_cons_zero, List.setIfInBounds_toArray, List.set_cons_zero, List.set_cons_succ]
 refine lec_takeP (i := 6) (v := ?v6z) rfl (by kernel_rfl) (by kernel_rfl) (by kernel_rfl) (by kernel_rfl) (fun _ _ _ h => h) (.inl ⟨by rfl, ?hy6z⟩) S8 ?rest6z
 case hy6z =>
  rintro w' _
  go_simp
  all_goals with_reducible rfl
 try simp only [Act.put, List.getElem_toArray, List.getElem_cons_succ, List.getElem_cons_zero, List.setIfInBounds_toArray, List.set_cons_zero, List.set_cons_succ]
 refine lec_takeT [8] (i := 7) (v := ?v7z) rfl (by kernel_rfl) (by kernel_rfl) (by kernel_rfl) (by kernel_rfl) (fun _ _ _ h => h) (.inl ⟨by rfl, ?hy7z⟩) S8 ?rest7z
 case hy7z =>
  rintro w' ⟨g0, g1, g2, g3, g4, g5, g6, g7, g8, g9⟩
  go_simp
  all_goals with_reducible rfl
 try simp only [Act.put, List.getElem_toArray, List.getElem_cons_succ, List.getElem_cons_zero, List.setIfInBounds_toArray, List.set_cons_zero, List.set_cons_succ]
 refine lec_one (i := 8) rfl (by kernel_rfl) ?_
 intro K8 hK8
 rw [if_pos (by rfl)]
 go_simp
 go_simp
 refine hK8 _ _ (fun h => by cases h) ?_
 clear hK8
 try simp only [Act.put, List.getElem_toArray, List.getElem_cons_succ, List.getElem_cons_zero, List.setIfInBounds_toArray, List.set_cons_zero, List.set_cons_succ]
 refine lec_done (by kernel_rfl) ?_
 clear S8
 go_wp2_with (go_at_call 92; refine Calls.mono (stuckIf_yes _ _) ?_; rintro e w6 ⟨rfl, rfl⟩)
 exact ⟨rfl, rfl, HST.out⟩
set_option maxRecDepth 100000 in
set_option maxHeartbeats 4000000 in
theorem rAlloc_full {s d w R} (h : Rm s d w R) (op : Int) (a b c : Nat) (n : Int) (hb : b < 16) (hr : 0 <= s.room /\ s.room <= 1099511627776) (hq : ¬ R.rg.getD b 0 < 0) (hq2 : R.rg.getD b 0 ≥ s.room - R.tk) :
 Calls Tryz.prog 55 #[.pointer (some ⟨s.mb, 0, none⟩), .agg #[.int .i64 op, .int .i64 (a : Int), .int .i64 (b : Int), .int .i64 (c : Int), .int .i64 n]] w fun e w' => e = .returned (.tuple #[]) /\ ∃ d', Rm s d' w' (R.panic 8 0) /\ FooR s d d' w w' := by
 obtain ⟨W, hW⟩ : ∃ W, W = w.alloc (.cells #[.int .i64 op, .int .i64 (a : Int), .int .i64 (b : Int), .int .i64 (c : Int), .int .i64 n] 71) := ⟨_, rfl⟩
 have hb1 : Below w.heap.size w W := by rw [hW]; exact below_newR w _
 have hx : W.heap[w.heap.size]? = some (.cells #[.int .i64 op, .int .i64 (a : Int), .int .i64 (b : Int), .int .i64 (c : Int), .int .i64 n] 71 (0, 0)) := by rw [hW]; exact heap_alloc_new _ _
 have l1 : w.heap.size < W.heap.size := (gl hx)
 have H := h.below hb1
 have hlt := h.lt
 have hlW := H.lt
 have hbi : (b : Int) < 16 := by omega
 obtain ⟨xb, hxb⟩ : ∃ xb, xb = R.rg.getD b 0 := ⟨_, rfl⟩
 have y0 : W.cell? ⟨w.heap.size, 0, none⟩ = some (.int .i64 op) := cell_arr hx rfl
 have y1 : W.cell? ⟨w.heap.size, 1, none⟩ = some (.int .i64 (a : Int)) := cell_arr hx rfl
 have y2 : W.cell? ⟨w.heap.size, 2, none⟩ = some (.int .i64 (b : Int)) := cell_arr hx rfl
 have y3 : W.cell? ⟨w.heap.size, 3, none⟩ = some (.int .i64 (c : Int)) := cell_arr hx rfl
 have y4 : W.cell? ⟨w.heap.size, 4, none⟩ = some (.int .i64 n) := cell_arr hx rfl
 have rb : W.cell? ⟨s.mb, 42 + b, none⟩ = some (.int .i64 xb) := by rw [hxb]; exact H.reg hb
 have c63 : W.cell? ⟨s.mb, 63, none⟩ = some (.pointer (some ⟨s.hb, 0, none⟩)) := by exact H.cells.c63
 have c64 : W.cell? ⟨s.mb, 64, none⟩ = some (.int .i64 s.room) := by exact H.cells.c64
 have HSW : Hid (∀ w2, Below W.heap.size W w2 -> w2.cell? ⟨w.heap.size, 0, none⟩ = some (.int .i64 op) /\ w2.cell? ⟨w.heap.size, 1, none⟩ = some (.int .i64 (a : Int)) /\ w2.cell? ⟨w.heap.size, 2, none⟩ = some (.int .i64 (b : Int)) /\ w2.cell? ⟨w.heap.size, 3, none⟩ = some (.int .i64 (c : Int)) /\ w2.cell? ⟨w.heap.size, 4, none⟩ = some (.int .i64 n) /\ w2.cell? ⟨s.mb, 42 + b, none⟩ = some (.int .i64 xb) /\ w2.cell? ⟨s.mb, 63, none⟩ = some (.pointer (some ⟨s.hb, 0, none⟩)) /\ w2.cell? ⟨s.mb, 64, none⟩ = some (.int .i64 s.room) /\ s.mb < w2.heap.size /\ w.heap.size < w2.heap.size) := fun w2 hb2 => by
  have q := H.below hb2
  have ex := (hb2.block _ l1).trans hx
  rw [hxb]
  exact ⟨cell_arr ex rfl, cell_arr ex rfl, cell_arr ex rfl, cell_arr ex rfl, cell_arr ex rfl, q.reg hb, q.cells.c63, q.cells.c64, q.lt, (gl ex)⟩
 have z0 : decide (xb < 0) = false := decide_eq_false (by rw [hxb]; exact hq)
 have HWD : Hid (∀ W2, Below W.heap.size W W2 -> Calls Tryz.prog 99 #[.pointer (some ⟨s.hb, 0, none⟩)] W2 fun e w' => e = .returned (.int .i64 R.tk) /\ w' = W2) := fun W2 hb2 => words_any W2 (H.below hb2).rest.ch
 have hlim := H.rest.ch.lim
 have hwr : IntKind.i64.wrap (s.room - R.tk) = s.room - R.tk := by rw [IntKind.wrap_i64]; omega
 have z1 : decide (s.room - R.tk <= xb) = true := decide_eq_true (by rw [hxb]; exact hq2)
 have HB3 : Hid (Below w.heap.size w W.drew.drew) := hb1.drew.drew
 have HP : Hid _ := mPanicR (H.below (Below.refl _ _).drew.drew) 8 0
 have HFO : Hid (∀ W2 R2 w2, Below w.heap.size w W2 -> (∃ d', Rm s d' w2 R2 /\ FooR s d d' W2 w2) -> ∃ d', Rm s d' w2 R2 /\ FooR s d d' w w2) := fun W2 R2 w2 hb ⟨d', q1, q2⟩ => ⟨d', q1, (FooR.of_below hb).trans q2⟩
 clear hq hq2 hr hlim
 obtain ⟨kb, hkb⟩ : ∃ kb, kb = w.heap.size := ⟨_, rfl⟩
 rw [<- hkb] at y0 y1 y2 y3 y4 l1 HSW
 generalize s.mb = mb at *
 clear h H hb1 hx hxb
 go_enter Tryz.func55, Tryz.ntmps55
 go_upto_region 1 with fail
 rw [<- hW, <- hkb]
 clear hW hkb
 have S8 : (fun w' : World => w'.cell? ⟨kb, 0, none⟩ = some (.int .i64 op) /\ w'.cell? ⟨kb, 1, none⟩ = some (.int .i64 (a : Int)) /\ w'.cell? ⟨kb, 2, none⟩ = some (.int .i64 (b : Int)) /\ w'.cell? ⟨kb, 3, none⟩ = some (.int .i64 (c : Int)) /\ w'.cell? ⟨kb, 4, none⟩ = some (.int .i64 n) /\ w'.cell? ⟨mb, 42 + b, none⟩ = some (.int .i64 xb) /\ w'.cell? ⟨mb, 63, none⟩ = some (.pointer (some ⟨s.hb, 0, none⟩)) /\ w'.cell? ⟨mb, 64, none⟩ = some (.int .i64 s.room) /\ mb < w'.heap.size /\ kb < w'.heap.size) W.drew := ⟨y0, y1, y2, y3, y4, rb, c63, c64, hlW, l1⟩
 refine lec_start (S := fun w' : World => w'.cell? ⟨kb, 0, none⟩ = some (.int .i64 op) /\ w'.cell? ⟨kb, 1, none⟩ = some (.int .i64 (a : Int)) /\ w'.cell? ⟨kb, 2, none⟩ = some (.int .i64 (b : Int)) /\ w'.cell? ⟨kb, 3, none⟩ = some (.int .i64 (c : Int)) /\ w'.cell? ⟨kb, 4, none⟩ = some (.int .i64 n) /\ w'.cell? ⟨mb, 42 + b, none⟩ = some (.int .i64 xb) /\ w'.cell? ⟨mb, 63, none⟩ = some (.pointer (some ⟨s.hb, 0, none⟩)) /\ w'.cell? ⟨mb, 64, none⟩ = some (.int .i64 s.room) /\ mb < w'.heap.size /\ kb < w'.heap.size) (z := 8) (by kernel_rfl) ?_
 show lec _ _ _ _ _ 9 _ _ _
 try simp only [List.size_toArray, List.length_cons, List.length_nil, Array.replicate]
 refine lec_takeP (i := 0) (v := ?v0z) rfl (by kernel_rfl) (by kernel_rfl) (by kernel_rfl) (by kernel_rfl) (fun _ _ _ h => h) (.inl ⟨by rfl, ?hy0z⟩) S8 ?rest0z
 case hy0z =>
  rintro w' _
  go_simp
  all_goals with_reducible rfl
 try simp only [Act.put, List.getElem_toArray, List.getElem_cons_succ, List.getElem_cons_zero, List.setIfInBounds_toArray, List.set_cons_zero, List.set_cons_succ]
 refine lec_takeP (i := 1) (v := ?v1z) rfl (by kernel_rfl) (by kernel_rfl) (by kernel_rfl) (by kernel_rfl) (fun _ _ _ h => h) (.inl ⟨by rfl, ?hy1z⟩) S8 ?rest1z
 case hy1z =>
  rintro w' _
  go_simp
  all_goals with_reducible rfl
 try simp only [Act.put, List.getElem_toArray, List.getElem_cons_succ, List.getElem_cons_zero, List.setIfInBounds_toArray, List.set_cons_zero, List.set_cons_succ]
 refine lec_takeT [6, 7, 8] (i := 2) (v := ?v2z) rfl (by kernel_rfl) (by kernel_rfl) (by kernel_rfl) (by kernel_rfl) (fun _ _ _ h => h) (.inl ⟨by rfl, ?hy2z⟩) S8 ?rest2z
 case hy2z =>
  rintro w' ⟨g0, g1, g2, g3, g4, g5, g6, g7, g8, g9⟩
  go_simp
  all_goals with_reducible rfl
 try simp only [Act.put, List.getElem_toArray, List.getElem_cons_succ, List.getElem_cons_zero, List.setIfInBounds_toArray, List.set_cons_zero, List.set_cons_succ]
 refine lec_takeP (i := 3) (v := ?v3z) rfl (by kernel_rfl) (by kernel_rfl) (by kernel_rfl) (by kernel_rfl) (fun _ _ _ h => h) (.inl ⟨by rfl, ?hy3z⟩) S8 ?rest3z
 case hy3z =>
  rintro w' _
  go_simp
  all_goals with_reducible rfl
 try simp only [Act.put, List.getElem_toArray, List.getElem_cons_succ, List.getElem_cons_zero, List.setIfInBounds_toArray, List.set_cons_zero, List.set_cons_succ]
 refine lec_takeP (i := 4) (v := ?v4z) rfl (by kernel_rfl) (by kernel_rfl) (by kernel_rfl) (by kernel_rfl) (fun _ _ _ h => h) (.inl ⟨by rfl, ?hy4z⟩) S8 ?rest4z
 case hy4z =>
  rintro w' _
  go_simp
  all_goals with_reducible rfl
 try simp only [Act.put, List.getElem_toArray, List.getElem_cons_succ, List.getElem_cons_zero, List.setIfInBounds_toArray, List.set_cons_zero, List.set_cons_succ]
 refine lec_takeP (i := 5) (v := ?v5z) rfl (by kernel_rfl) (by kernel_rfl) (by kernel_rfl) (by kernel_rfl) (fun _ _ _ h => h) (.inl ⟨by rfl, ?hy5z⟩) S8 ?rest5z
 case hy5z =>
  rintro w' _
  go_simp
  all_goals with_reducible rfl
 try simp only [Act.put, List.getElem_toArray, List.getElem_cons_succ, List.getElem_cons_zero, List.setIfInBounds_toArray, List.set_cons_zero, List.set_cons_succ]
 refine lec_takeP (i := 6) (v := ?v6z) rfl (by kernel_rfl) (by kernel_rfl) (by kernel_rfl) (by kernel_rfl) (fun _ _ _ h => h) (.inl ⟨by rfl, ?hy6z⟩) S8 ?rest6z
 case hy6z =>
  rintro w' _
  go_simp
  all_goals with_reducible rfl
 try simp only [Act.put, List.getElem_toArray, List.getElem_cons_succ, List.getElem_cons_zero, List.setIfInBounds_toArray, List.set_cons_zero, List.set_cons_succ]
 refine lec_takeT [8] (i := 7) (v := ?v7z) rfl (by kernel_rfl) (by kernel_rfl) (by kernel_rfl) (by kernel_rfl) (fun _ _ _ h => h) (.inl ⟨by rfl, ?hy7z⟩) S8 ?rest7z
 case hy7z =>
  rintro w' ⟨g0, g1, g2, g3, g4, g5, g6, g7, g8, g9⟩
  go_simp
  all_goals with_reducible rfl
 try simp only [Act.put, List.getElem_toArray, List.getElem_cons_succ, List.getElem_cons_zero, List.setIfInBounds_toArray, List.set_cons_zero, List.set_cons_succ]
 refine lec_one (i := 8) rfl (by kernel_rfl) ?_
 intro K8 hK8
 rw [if_pos (by rfl)]
 go_simp
 go_simp
 refine hK8 _ _ (fun h => by cases h) ?_
 clear hK8
 try simp only [Act.put, List.getElem_toArray, List.getElem_cons_succ, List.getElem_cons_zero, List.setIfInBounds_toArray, List.set_cons_zero, List.set_cons_succ]
 refine lec_done (by kernel_rfl) ?_
 clear S8
 go_upto_region 3 with (go_at_call 92; refine Calls.mono (stuckIf_no _ _) ?_; rintro e w6 ⟨rfl, rfl⟩)
 have S8 : (fun w' : World => w'.cell? ⟨kb, 0, none⟩ = some (.int .i64 op) /\ w'.cell? ⟨kb, 1, none⟩ = some (.int .i64 (a : Int)) /\ w'.cell? ⟨kb, 2, none⟩ = some (.int .i64 (b : Int)) /\ w'.cell? ⟨kb, 3, none⟩ = some (.int .i64 (c : Int)) /\ w'.cell? ⟨kb, 4, none⟩ = some (.int .i64 n) /\ w'.cell? ⟨mb, 42 + b, none⟩ = some (.int .i64 xb) /\ w'.cell? ⟨mb, 63, none⟩ = some (.pointer (some ⟨s.hb, 0, none⟩)) /\ w'.cell? ⟨mb, 64, none⟩ = some (.int .i64 s.room) /\ mb < w'.heap.size /\ kb < w'.heap.size) W.drew.drew := ⟨y0, y1, y2, y3, y4, rb, c63, c64, hlW, l1⟩
 refine lec_start (S := fun w' : World => w'.cell? ⟨kb, 0, none⟩ = some (.int .i64 op) /\ w'.cell? ⟨kb, 1, none⟩ = some (.int .i64 (a : Int)) /\ w'.cell? ⟨kb, 2, none⟩ = some (.int .i64 (b : Int)) /\ w'.cell? ⟨kb, 3, none⟩ = some (.int .i64 (c : Int)) /\ w'.cell? ⟨kb, 4, none⟩ = some (.int .i64 n) /\ w'.cell? ⟨mb, 42 + b, none⟩ = some (.int .i64 xb) /\ w'.cell? ⟨mb, 63, none⟩ = some (.pointer (some ⟨s.hb, 0, none⟩)) /\ w'.cell? ⟨mb, 64, none⟩ = some (.int .i64 s.room) /\ mb < w'.heap.size /\ kb < w'.heap.size) (z := 13) (by kernel_rfl) ?_
 show lec _ _ _ _ _ 14 _ _ _
 try simp only [List.size_toArray, List.length_cons, List.length_nil, Array.replicate]
 refine lec_takeP (i := 0) (v := ?v0y) rfl (by kernel_rfl) (by kernel_rfl) (by kernel_rfl) (by kernel_rfl) (fun _ _ _ h => h) (.inl ⟨by rfl, ?hy0y⟩) S8 ?rest0y
 case hy0y =>
  rintro w' _
  go_simp
  all_goals with_reducible rfl
 try simp only [Act.put, List.getElem_toArray, List.getElem_cons_succ, List.getElem_cons_zero, List.setIfInBounds_toArray, List.set_cons_zero, List.set_cons_succ]
 refine lec_takeP (i := 1) (v := ?v1y) rfl (by kernel_rfl) (by kernel_rfl) (by kernel_rfl) (by kernel_rfl) (fun _ _ _ h => h) (.inl ⟨by rfl, ?hy1y⟩) S8 ?rest1y
 case hy1y =>
  rintro w' _
  go_simp
  all_goals with_reducible rfl
 try simp only [Act.put, List.getElem_toArray, List.getElem_cons_succ, List.getElem_cons_zero, List.setIfInBounds_toArray, List.set_cons_zero, List.set_cons_succ]
 refine lec_takeP (i := 2) (v := ?v2y) rfl (by kernel_rfl) (by kernel_rfl) (by kernel_rfl) (by kernel_rfl) (fun _ _ _ h => h) (.inl ⟨by rfl, ?hy2y⟩) S8 ?rest2y
 case hy2y =>
  rintro w' _
  go_simp
  all_goals with_reducible rfl
 try simp only [Act.put, List.getElem_toArray, List.getElem_cons_succ, List.getElem_cons_zero, List.setIfInBounds_toArray, List.set_cons_zero, List.set_cons_succ]
 refine lec_takeP (i := 3) (v := ?v3y) rfl (by kernel_rfl) (by kernel_rfl) (by kernel_rfl) (by kernel_rfl) (fun _ _ _ h => h) (.inl ⟨by rfl, ?hy3y⟩) S8 ?rest3y
 case hy3y =>
  rintro w' _
  go_simp
  all_goals with_reducible rfl
 try simp only [Act.put, List.getElem_toArray, List.getElem_cons_succ, List.getElem_cons_zero, List.setIfInBounds_toArray, List.set_cons_zero, List.set_cons_succ]
 refine lec_takeP (i := 4) (v := ?v4y) rfl (by kernel_rfl) (by kernel_rfl) (by kernel_rfl) (by kernel_rfl) (fun _ _ _ h => h) (.inl ⟨by rfl, ?hy4y⟩) S8 ?rest4y
 case hy4y =>
  rintro w' _
  go_simp
  all_goals with_reducible rfl
 try simp only [Act.put, List.getElem_toArray, List.getElem_cons_succ, List.getElem_cons_zero, List.setIfInBounds_toArray, List.set_cons_zero, List.set_cons_succ]
 refine lec_takeT [12, 13] (i := 5) (v := ?v5y) rfl (by kernel_rfl) (by kernel_rfl) (by kernel_rfl) (by kernel_rfl) (fun _ _ _ h => h) (.inl ⟨by rfl, ?hy5y⟩) S8 ?rest5y
 case hy5y =>
  rintro w' ⟨g0, g1, g2, g3, g4, g5, g6, g7, g8, g9⟩
  go_simp
  all_goals with_reducible rfl
 try simp only [Act.put, List.getElem_toArray, List.getElem_cons_succ, List.getElem_cons_zero, List.setIfInBounds_toArray, List.set_cons_zero, List.set_cons_succ]
 refine lec_takeP (i := 6) (v := ?v6y) rfl (by kernel_rfl) (by kernel_rfl) (by kernel_rfl) (by kernel_rfl) (fun _ _ _ h => h) (.inl ⟨by rfl, ?hy6y⟩) S8 ?rest6y
 case hy6y =>
  rintro w' _
  go_simp
  all_goals with_reducible rfl
 try simp only [Act.put, List.getElem_toArray, List.getElem_cons_succ, List.getElem_cons_zero, List.setIfInBounds_toArray, List.set_cons_zero, List.set_cons_succ]
 refine lec_takeP (i := 7) (v := ?v7y) rfl (by kernel_rfl) (by kernel_rfl) (by kernel_rfl) (by kernel_rfl) (fun _ _ _ h => h) (.inl ⟨by rfl, ?hy7y⟩) S8 ?rest7y
 case hy7y =>
  rintro w' _
  go_simp
  all_goals with_reducible rfl
 try simp only [Act.put, List.getElem_toArray, List.getElem_cons_succ, List.getElem_cons_zero, List.setIfInBounds_toArray, List.set_cons_zero, List.set_cons_succ]
 refine lec_takeP (i := 8) (v := ?v8y) rfl (by kernel_rfl) (by kernel_rfl) (by kernel_rfl) (by kernel_rfl) (fun _ _ _ h => h) (.inl ⟨by rfl, ?hy8y⟩) S8 ?rest8y
 case hy8y =>
  rintro w' _
  go_simp
  all_goals with_reducible rfl
 try simp only [Act.put, List.getElem_toArray, List.getElem_cons_succ, List.getElem_cons_zero, List.setIfInBounds_toArray, List.set_cons_zero, List.set_cons_succ]
 refine lec_takeP (i := 9) (v := ?v9y) rfl (by kernel_rfl) (by kernel_rfl) (by kernel_rfl) (by kernel_rfl) (fun _ _ _ h => h) (.inl ⟨by rfl, ?hy9y⟩) S8 ?rest9y
 case hy9y =>
  rintro w' _
  go_simp
  all_goals with_reducible rfl
 try simp only [Act.put, List.getElem_toArray, List.getElem_cons_succ, List.getElem_cons_zero, List.setIfInBounds_toArray, List.set_cons_zero, List.set_cons_succ]
 refine lec_takeT [11, 12, 13] (i := 10) (v := ?v10y) rfl (by kernel_rfl) (by kernel_rfl) (by kernel_rfl) (by kernel_rfl) (fun _ _ _ h => h) (.inl ⟨by rfl, ?hy10y⟩) S8 ?rest10y
 case hy10y =>
  rintro w' ⟨g0, g1, g2, g3, g4, g5, g6, g7, g8, g9⟩
  go_simp
  all_goals with_reducible rfl
 try simp only [Act.put, List.getElem_toArray, List.getElem_cons_succ, List.getElem_cons_zero, List.setIfInBounds_toArray, List.set_cons_zero, List.set_cons_succ]
 refine lec_one (i := 11) rfl (by kernel_rfl) ?_
 intro K11 hK11
 rw [if_pos (by rfl)]
 go_simp
 refine Calls.mono (HWD.out _ (((Below.refl _ _).drew).drew)) ?_
 rintro e w2 ⟨rfl, rfl⟩
 go_simp
 refine hK11 _ _ (fun _ => S8) ?_
 clear hK11
 try simp only [Act.put, List.getElem_toArray, List.getElem_cons_succ, List.getElem_cons_zero, List.setIfInBounds_toArray, List.set_cons_zero, List.set_cons_succ]
 refine lec_takeP (i := 12) (v := ?v12y) rfl (by kernel_rfl) (by kernel_rfl) (by kernel_rfl) (by kernel_rfl) (fun _ _ _ h => h) (.inl ⟨by rfl, ?hy12y⟩) S8 ?rest12y
 case hy12y =>
  rintro w' _
  go_simp
  all_goals with_reducible rfl
 try simp only [Act.put, List.getElem_toArray, List.getElem_cons_succ, List.getElem_cons_zero, List.setIfInBounds_toArray, List.set_cons_zero, List.set_cons_succ]
 refine lec_one (i := 13) rfl (by kernel_rfl) ?_
 intro K13 hK13
 rw [if_pos (by rfl)]
 go_simp
 go_simp
 refine hK13 _ _ (fun h => by cases h) ?_
 clear hK13
 try simp only [Act.put, List.getElem_toArray, List.getElem_cons_succ, List.getElem_cons_zero, List.setIfInBounds_toArray, List.set_cons_zero, List.set_cons_succ]
 refine lec_done (by kernel_rfl) ?_
 clear S8
 go_wp2_with (go_at_call 68; refine Calls.mono HP.out ?_; rintro e w2 ⟨rfl, h2⟩; have H2 : Hid _ := h2; clear h2)
 exact bodyPost_ret (v := .tuple #[]) (by simp [results, Tryz.results55, go_sem]) rfl ⟨rfl, HFO.out _ _ _ HB3.out H2.out⟩
set_option maxRecDepth 100000 in
set_option maxHeartbeats 4000000 in
theorem rAlloc_ok {s d w R} (h : Rm s d w R) (op : Int) (a b c : Nat) (n : Int) (ha : a < 16) (hb : b < 16) (hr : 0 <= s.room /\ s.room <= 1099511627776) (hhc : R.hc < 1000000000) (hq : ¬ R.rg.getD b 0 < 0) (hq2 : ¬ R.rg.getD b 0 ≥ s.room - R.tk) :
 Calls Tryz.prog 55 #[.pointer (some ⟨s.mb, 0, none⟩), .agg #[.int .i64 op, .int .i64 (a : Int), .int .i64 (b : Int), .int .i64 (c : Int), .int .i64 n]] w fun e w' => e = .returned (.tuple #[]) /\ ∃ d', Rm s d' w' { R.set a (R.tk + 1) with tk := R.tk + R.rg.getD b 0 + 1, ln := upd R.ln (R.tk + 1) (some (R.rg.getD b 0)), hc := R.hc + 1, words := R.tk + R.rg.getD b 0 + 1 } /\ FooR s d d' w w' := by
 obtain ⟨W, hW⟩ : ∃ W, W = w.alloc (.cells #[.int .i64 op, .int .i64 (a : Int), .int .i64 (b : Int), .int .i64 (c : Int), .int .i64 n] 71) := ⟨_, rfl⟩
 have hb1 : Below w.heap.size w W := by rw [hW]; exact below_newR w _
 have hx : W.heap[w.heap.size]? = some (.cells #[.int .i64 op, .int .i64 (a : Int), .int .i64 (b : Int), .int .i64 (c : Int), .int .i64 n] 71 (0, 0)) := by rw [hW]; exact heap_alloc_new _ _
 have l1 : w.heap.size < W.heap.size := (gl hx)
 have H := h.below hb1
 have hlt := h.lt
 have hlW := H.lt
 have hai : (a : Int) < 16 := by omega
 obtain ⟨xa, hxa⟩ : ∃ xa, xa = R.rg.getD a 0 := ⟨_, rfl⟩
 have hbi : (b : Int) < 16 := by omega
 obtain ⟨xb, hxb⟩ : ∃ xb, xb = R.rg.getD b 0 := ⟨_, rfl⟩
 have y0 : W.cell? ⟨w.heap.size, 0, none⟩ = some (.int .i64 op) := cell_arr hx rfl
 have y1 : W.cell? ⟨w.heap.size, 1, none⟩ = some (.int .i64 (a : Int)) := cell_arr hx rfl
 have y2 : W.cell? ⟨w.heap.size, 2, none⟩ = some (.int .i64 (b : Int)) := cell_arr hx rfl
 have y3 : W.cell? ⟨w.heap.size, 3, none⟩ = some (.int .i64 (c : Int)) := cell_arr hx rfl
 have y4 : W.cell? ⟨w.heap.size, 4, none⟩ = some (.int .i64 n) := cell_arr hx rfl
 have ra : W.cell? ⟨s.mb, 42 + a, none⟩ = some (.int .i64 xa) := by rw [hxa]; exact H.reg ha
 have rb : W.cell? ⟨s.mb, 42 + b, none⟩ = some (.int .i64 xb) := by rw [hxb]; exact H.reg hb
 have c63 : W.cell? ⟨s.mb, 63, none⟩ = some (.pointer (some ⟨s.hb, 0, none⟩)) := by exact H.cells.c63
 have c64 : W.cell? ⟨s.mb, 64, none⟩ = some (.int .i64 s.room) := by exact H.cells.c64
 have HSW : Hid (∀ w2, Below W.heap.size W w2 -> w2.cell? ⟨w.heap.size, 0, none⟩ = some (.int .i64 op) /\ w2.cell? ⟨w.heap.size, 1, none⟩ = some (.int .i64 (a : Int)) /\ w2.cell? ⟨w.heap.size, 2, none⟩ = some (.int .i64 (b : Int)) /\ w2.cell? ⟨w.heap.size, 3, none⟩ = some (.int .i64 (c : Int)) /\ w2.cell? ⟨w.heap.size, 4, none⟩ = some (.int .i64 n) /\ w2.cell? ⟨s.mb, 42 + a, none⟩ = some (.int .i64 xa) /\ w2.cell? ⟨s.mb, 42 + b, none⟩ = some (.int .i64 xb) /\ w2.cell? ⟨s.mb, 63, none⟩ = some (.pointer (some ⟨s.hb, 0, none⟩)) /\ w2.cell? ⟨s.mb, 64, none⟩ = some (.int .i64 s.room) /\ s.mb < w2.heap.size /\ w.heap.size < w2.heap.size) := fun w2 hb2 => by
  have q := H.below hb2
  have ex := (hb2.block _ l1).trans hx
  rw [hxa]
  rw [hxb]
  exact ⟨cell_arr ex rfl, cell_arr ex rfl, cell_arr ex rfl, cell_arr ex rfl, cell_arr ex rfl, q.reg ha, q.reg hb, q.cells.c63, q.cells.c64, q.lt, (gl ex)⟩
 have z0 : decide (xb < 0) = false := decide_eq_false (by rw [hxb]; exact hq)
 have HWD : Hid (∀ W2, Below W.heap.size W W2 -> Calls Tryz.prog 99 #[.pointer (some ⟨s.hb, 0, none⟩)] W2 fun e w' => e = .returned (.int .i64 R.tk) /\ w' = W2) := fun W2 hb2 => words_any W2 (H.below hb2).rest.ch
 have hlim := H.rest.ch.lim
 have hwr : IntKind.i64.wrap (s.room - R.tk) = s.room - R.tk := by rw [IntKind.wrap_i64]; omega
 have z1 : decide (s.room - R.tk <= xb) = false := decide_eq_false (by rw [hxb]; exact hq2)
 have H3 := H.below (((Below.refl _ _).drew).drew).drew
 have B3 : Below w.heap.size w W.drew.drew.drew := hb1.drew.drew.drew
 have HMK : Hid (Calls Tryz.prog 100 #[.pointer (some ⟨s.hb, 0, none⟩), .int .i64 xb] W.drew.drew.drew fun e w2 => e = .returned (.tuple #[.int .i64 (R.tk + 1), .bool true]) /\ (w2.cell? ⟨w.heap.size, 0, none⟩ = some (.int .i64 op) /\ w2.cell? ⟨w.heap.size, 1, none⟩ = some (.int .i64 (a : Int)) /\ w2.cell? ⟨w.heap.size, 2, none⟩ = some (.int .i64 (b : Int)) /\ w2.cell? ⟨w.heap.size, 3, none⟩ = some (.int .i64 (c : Int)) /\ w2.cell? ⟨w.heap.size, 4, none⟩ = some (.int .i64 n) /\ w2.cell? ⟨s.mb, 42 + a, none⟩ = some (.int .i64 xa) /\ w2.cell? ⟨s.mb, 42 + b, none⟩ = some (.int .i64 xb) /\ w2.cell? ⟨s.mb, 63, none⟩ = some (.pointer (some ⟨s.hb, 0, none⟩)) /\ w2.cell? ⟨s.mb, 64, none⟩ = some (.int .i64 s.room) /\ s.mb < w2.heap.size /\ w.heap.size < w2.heap.size) /\ w2.frozen? ⟨s.mb, 42 + a, none⟩ = false /\ ((w2.setCell ⟨s.mb, 42 + a, none⟩ (.int .i64 (R.tk + 1))).drew.cell? ⟨w.heap.size, 0, none⟩ = some (.int .i64 op) /\ (w2.setCell ⟨s.mb, 42 + a, none⟩ (.int .i64 (R.tk + 1))).drew.cell? ⟨w.heap.size, 1, none⟩ = some (.int .i64 (a : Int)) /\ (w2.setCell ⟨s.mb, 42 + a, none⟩ (.int .i64 (R.tk + 1))).drew.cell? ⟨w.heap.size, 2, none⟩ = some (.int .i64 (b : Int)) /\ (w2.setCell ⟨s.mb, 42 + a, none⟩ (.int .i64 (R.tk + 1))).drew.cell? ⟨w.heap.size, 3, none⟩ = some (.int .i64 (c : Int)) /\ (w2.setCell ⟨s.mb, 42 + a, none⟩ (.int .i64 (R.tk + 1))).drew.cell? ⟨w.heap.size, 4, none⟩ = some (.int .i64 n) /\ (w2.setCell ⟨s.mb, 42 + a, none⟩ (.int .i64 (R.tk + 1))).drew.cell? ⟨s.mb, 42 + a, none⟩ = some (.int .i64 (R.tk + 1)) /\ (w2.setCell ⟨s.mb, 42 + a, none⟩ (.int .i64 (R.tk + 1))).drew.cell? ⟨s.mb, 63, none⟩ = some (.pointer (some ⟨s.hb, 0, none⟩)) /\ (w2.setCell ⟨s.mb, 42 + a, none⟩ (.int .i64 (R.tk + 1))).drew.cell? ⟨s.mb, 64, none⟩ = some (.int .i64 s.room) /\ s.mb < (w2.setCell ⟨s.mb, 42 + a, none⟩ (.int .i64 (R.tk + 1))).drew.heap.size /\ w.heap.size < (w2.setCell ⟨s.mb, 42 + a, none⟩ (.int .i64 (R.tk + 1))).drew.heap.size) /\ (Calls Tryz.prog 99 #[.pointer (some ⟨s.hb, 0, none⟩)] (w2.setCell ⟨s.mb, 42 + a, none⟩ (.int .i64 (R.tk + 1))).drew fun e w' => e = .returned (.int .i64 (R.tk + xb + 1)) /\ w' = (w2.setCell ⟨s.mb, 42 + a, none⟩ (.int .i64 (R.tk + 1))).drew) /\ (Calls Tryz.prog 101 #[.pointer (some ⟨s.mb, 66, none⟩), .int .i64 (R.tk + xb + 1)] (w2.setCell ⟨s.mb, 42 + a, none⟩ (.int .i64 (R.tk + 1))).drew fun e w' => e = .returned (.tuple #[]) /\ ∃ d', Rm s d' w' { R.set a (R.tk + 1) with tk := R.tk + xb + 1, ln := upd R.ln (R.tk + 1) (some xb), hc := R.hc + 1, words := R.tk + xb + 1 } /\ FooR s d d' w w')) := by
  refine (make_yes _ H3.rest.ch hhc xb (by omega) (by omega)).mono ?_
  rintro e w2 ⟨rfl, h5, h6⟩
  have q5 := H3.setCh h5 h6
  have q6 := (q5.1.setReg ha (R.tk + 1))
  have q7 := q6.1.below (Below.refl _ _).drew
  have hnk : ¬ CF s.hb s.hm s.hn w.heap.size := fun e => by have := h.rest.hi.2.2.1 _ e; have := h.rest.hi.1; omega
  have ex : w2.heap[w.heap.size]? = _ := (h6.block _ (show w.heap.size < W.drew.drew.drew.heap.size from l1) hnk).trans hx
  have hne : w.heap.size ≠ s.mb := fun e => by have := h.lt; omega
  have ey : (w2.setCell ⟨s.mb, 42 + a, none⟩ (.int .i64 (R.tk + 1))).drew.heap[w.heap.size]? = _ := (heap_set_other hne).trans ex
  have rgn : ∀ j, ({ R with rg := R.rg.set a (R.tk + 1) } : Rv).rg.getD j 0 = if j = a then R.tk + 1 else R.rg.getD j 0 := fun j => by
   simp only [List.getD_eq_getElem?_getD, List.getElem?_set]
   by_cases e : a = j
   ·subst e; simp [h.rg, ha]
   ·rw [if_neg e, if_neg (Ne.symm e)]
  refine ⟨rfl, ⟨cell_arr ex rfl, cell_arr ex rfl, cell_arr ex rfl, cell_arr ex rfl, cell_arr ex rfl, by rw [hxa]; exact q5.1.reg ha, by rw [hxb]; exact q5.1.reg hb, q5.1.cells.c63, q5.1.cells.c64, q5.1.lt, (gl ex)⟩, q5.1.fz _, ⟨cell_arr ey rfl, cell_arr ey rfl, cell_arr ey rfl, cell_arr ey rfl, cell_arr ey rfl, ?_, q7.cells.c63, q7.cells.c64, q7.lt, (gl ey)⟩, words_any _ q7.rest.ch, ?_⟩
  ·have := q7.reg ha
   rw [this]
   congr 2
   have := rgn a
   rw [if_pos rfl] at this
   exact this
  ·refine (mWordsR q7 (R.tk + xb + 1)).mono ?_
   rintro e w' ⟨rfl, d', r1, r2⟩
   exact ⟨rfl, d', r1, ((FooR.of_below B3).trans (q5.2.trans q6.2)).trans ((FooR.of_below (Below.refl _ _).drew).trans r2)⟩
 rw [<- hxb]
 clear hq hq2 hr hlim hhc H3 B3
 obtain ⟨kb, hkb⟩ : ∃ kb, kb = w.heap.size := ⟨_, rfl⟩
 rw [<- hkb] at y0 y1 y2 y3 y4 l1 HSW HMK
 generalize s.mb = mb at *
 clear h H hb1 hx hxa hxb
 go_enter Tryz.func55, Tryz.ntmps55
 go_upto_region 1 with fail
 rw [<- hW, <- hkb]
 clear hW hkb
 have S8 : (fun w' : World => w'.cell? ⟨kb, 0, none⟩ = some (.int .i64 op) /\ w'.cell? ⟨kb, 1, none⟩ = some (.int .i64 (a : Int)) /\ w'.cell? ⟨kb, 2, none⟩ = some (.int .i64 (b : Int)) /\ w'.cell? ⟨kb, 3, none⟩ = some (.int .i64 (c : Int)) /\ w'.cell? ⟨kb, 4, none⟩ = some (.int .i64 n) /\ w'.cell? ⟨mb, 42 + a, none⟩ = some (.int .i64 xa) /\ w'.cell? ⟨mb, 42 + b, none⟩ = some (.int .i64 xb) /\ w'.cell? ⟨mb, 63, none⟩ = some (.pointer (some ⟨s.hb, 0, none⟩)) /\ w'.cell? ⟨mb, 64, none⟩ = some (.int .i64 s.room) /\ mb < w'.heap.size /\ kb < w'.heap.size) W.drew := ⟨y0, y1, y2, y3, y4, ra, rb, c63, c64, hlW, l1⟩
 refine lec_start (S := fun w' : World => w'.cell? ⟨kb, 0, none⟩ = some (.int .i64 op) /\ w'.cell? ⟨kb, 1, none⟩ = some (.int .i64 (a : Int)) /\ w'.cell? ⟨kb, 2, none⟩ = some (.int .i64 (b : Int)) /\ w'.cell? ⟨kb, 3, none⟩ = some (.int .i64 (c : Int)) /\ w'.cell? ⟨kb, 4, none⟩ = some (.int .i64 n) /\ w'.cell? ⟨mb, 42 + a, none⟩ = some (.int .i64 xa) /\ w'.cell? ⟨mb, 42 + b, none⟩ = some (.int .i64 xb) /\ w'.cell? ⟨mb, 63, none⟩ = some (.pointer (some ⟨s.hb, 0, none⟩)) /\ w'.cell? ⟨mb, 64, none⟩ = some (.int .i64 s.room) /\ mb < w'.heap.size /\ kb < w'.heap.size) (z := 8) (by kernel_rfl) ?_
 show lec _ _ _ _ _ 9 _ _ _
 try simp only [List.size_toArray, List.length_cons, List.length_nil, Array.replicate]
 refine lec_takeP (i := 0) (v := ?v0z) rfl (by kernel_rfl) (by kernel_rfl) (by kernel_rfl) (by kernel_rfl) (fun _ _ _ h => h) (.inl ⟨by rfl, ?hy0z⟩) S8 ?rest0z
 case hy0z =>
  rintro w' _
  go_simp
  all_goals with_reducible rfl
 try simp only [Act.put, List.getElem_toArray, List.getElem_cons_succ, List.getElem_cons_zero, List.setIfInBounds_toArray, List.set_cons_zero, List.set_cons_succ]
 refine lec_takeP (i := 1) (v := ?v1z) rfl (by kernel_rfl) (by kernel_rfl) (by kernel_rfl) (by kernel_rfl) (fun _ _ _ h => h) (.inl ⟨by rfl, ?hy1z⟩) S8 ?rest1z
 case hy1z =>
  rintro w' _
  go_simp
  all_goals with_reducible rfl
 try simp only [Act.put, List.getElem_toArray, List.getElem_cons_succ, List.getElem_cons_zero, List.setIfInBounds_toArray, List.set_cons_zero, List.set_cons_succ]
 refine lec_takeT [6, 7, 8] (i := 2) (v := ?v2z) rfl (by kernel_rfl) (by kernel_rfl) (by kernel_rfl) (by kernel_rfl) (fun _ _ _ h => h) (.inl ⟨by rfl, ?hy2z⟩) S8 ?rest2z
 case hy2z =>
  rintro w' ⟨g0, g1, g2, g3, g4, g5, g6, g7, g8, g9, g10⟩
  go_simp
  all_goals with_reducible rfl
 try simp only [Act.put, List.getElem_toArray, List.getElem_cons_succ, List.getElem_cons_zero, List.setIfInBounds_toArray, List.set_cons_zero, List.set_cons_succ]
 refine lec_takeP (i := 3) (v := ?v3z) rfl (by kernel_rfl) (by kernel_rfl) (by kernel_rfl) (by kernel_rfl) (fun _ _ _ h => h) (.inl ⟨by rfl, ?hy3z⟩) S8 ?rest3z
 case hy3z =>
  rintro w' _
  go_simp
  all_goals with_reducible rfl
 try simp only [Act.put, List.getElem_toArray, List.getElem_cons_succ, List.getElem_cons_zero, List.setIfInBounds_toArray, List.set_cons_zero, List.set_cons_succ]
 refine lec_takeP (i := 4) (v := ?v4z) rfl (by kernel_rfl) (by kernel_rfl) (by kernel_rfl) (by kernel_rfl) (fun _ _ _ h => h) (.inl ⟨by rfl, ?hy4z⟩) S8 ?rest4z
 case hy4z =>
  rintro w' _
  go_simp
  all_goals with_reducible rfl
 try simp only [Act.put, List.getElem_toArray, List.getElem_cons_succ, List.getElem_cons_zero, List.setIfInBounds_toArray, List.set_cons_zero, List.set_cons_succ]
 refine lec_takeP (i := 5) (v := ?v5z) rfl (by kernel_rfl) (by kernel_rfl) (by kernel_rfl) (by kernel_rfl) (fun _ _ _ h => h) (.inl ⟨by rfl, ?hy5z⟩) S8 ?rest5z
 case hy5z =>
  rintro w' _
  go_simp
  all_goals with_reducible rfl
 try simp only [Act.put, List.getElem_toArray, List.getElem_cons_succ, List.getElem_cons_zero, List.setIfInBounds_toArray, List.set_cons_zero, List.set_cons_succ]
 refine lec_takeP (i := 6) (v := ?v6z) rfl (by kernel_rfl) (by kernel_rfl) (by kernel_rfl) (by kernel_rfl) (fun _ _ _ h => h) (.inl ⟨by rfl, ?hy6z⟩) S8 ?rest6z
 case hy6z =>
  rintro w' _
  go_simp
  all_goals with_reducible rfl
 try simp only [Act.put, List.getElem_toArray, List.getElem_cons_succ, List.getElem_cons_zero, List.setIfInBounds_toArray, List.set_cons_zero, List.set_cons_succ]
 refine lec_takeT [8] (i := 7) (v := ?v7z) rfl (by kernel_rfl) (by kernel_rfl) (by kernel_rfl) (by kernel_rfl) (fun _ _ _ h => h) (.inl ⟨by rfl, ?hy7z⟩) S8 ?rest7z
 case hy7z =>
  rintro w' ⟨g0, g1, g2, g3, g4, g5, g6, g7, g8, g9, g10⟩
  go_simp
  all_goals with_reducible rfl
 try simp only [Act.put, List.getElem_toArray, List.getElem_cons_succ, List.getElem_cons_zero, List.setIfInBounds_toArray, List.set_cons_zero, List.set_cons_succ]
 refine lec_one (i := 8) rfl (by kernel_rfl) ?_
 intro K8 hK8
 rw [if_pos (by rfl)]
 go_simp
 go_simp
 refine hK8 _ _ (fun h => by cases h) ?_
 clear hK8
 try simp only [Act.put, List.getElem_toArray, List.getElem_cons_succ, List.getElem_cons_zero, List.setIfInBounds_toArray, List.set_cons_zero, List.set_cons_succ]
 refine lec_done (by kernel_rfl) ?_
 clear S8
 go_upto_region 3 with (go_at_call 92; refine Calls.mono (stuckIf_no _ _) ?_; rintro e w6 ⟨rfl, rfl⟩)
 have S8 : (fun w' : World => w'.cell? ⟨kb, 0, none⟩ = some (.int .i64 op) /\ w'.cell? ⟨kb, 1, none⟩ = some (.int .i64 (a : Int)) /\ w'.cell? ⟨kb, 2, none⟩ = some (.int .i64 (b : Int)) /\ w'.cell? ⟨kb, 3, none⟩ = some (.int .i64 (c : Int)) /\ w'.cell? ⟨kb, 4, none⟩ = some (.int .i64 n) /\ w'.cell? ⟨mb, 42 + a, none⟩ = some (.int .i64 xa) /\ w'.cell? ⟨mb, 42 + b, none⟩ = some (.int .i64 xb) /\ w'.cell? ⟨mb, 63, none⟩ = some (.pointer (some ⟨s.hb, 0, none⟩)) /\ w'.cell? ⟨mb, 64, none⟩ = some (.int .i64 s.room) /\ mb < w'.heap.size /\ kb < w'.heap.size) W.drew.drew := ⟨y0, y1, y2, y3, y4, ra, rb, c63, c64, hlW, l1⟩
 refine lec_start (S := fun w' : World => w'.cell? ⟨kb, 0, none⟩ = some (.int .i64 op) /\ w'.cell? ⟨kb, 1, none⟩ = some (.int .i64 (a : Int)) /\ w'.cell? ⟨kb, 2, none⟩ = some (.int .i64 (b : Int)) /\ w'.cell? ⟨kb, 3, none⟩ = some (.int .i64 (c : Int)) /\ w'.cell? ⟨kb, 4, none⟩ = some (.int .i64 n) /\ w'.cell? ⟨mb, 42 + a, none⟩ = some (.int .i64 xa) /\ w'.cell? ⟨mb, 42 + b, none⟩ = some (.int .i64 xb) /\ w'.cell? ⟨mb, 63, none⟩ = some (.pointer (some ⟨s.hb, 0, none⟩)) /\ w'.cell? ⟨mb, 64, none⟩ = some (.int .i64 s.room) /\ mb < w'.heap.size /\ kb < w'.heap.size) (z := 13) (by kernel_rfl) ?_
 show lec _ _ _ _ _ 14 _ _ _
 try simp only [List.size_toArray, List.length_cons, List.length_nil, Array.replicate]
 refine lec_takeP (i := 0) (v := ?v0y) rfl (by kernel_rfl) (by kernel_rfl) (by kernel_rfl) (by kernel_rfl) (fun _ _ _ h => h) (.inl ⟨by rfl, ?hy0y⟩) S8 ?rest0y
 case hy0y =>
  rintro w' _
  go_simp
  all_goals with_reducible rfl
 try simp only [Act.put, List.getElem_toArray, List.getElem_cons_succ, List.getElem_cons_zero, List.setIfInBounds_toArray, List.set_cons_zero, List.set_cons_succ]
 refine lec_takeP (i := 1) (v := ?v1y) rfl (by kernel_rfl) (by kernel_rfl) (by kernel_rfl) (by kernel_rfl) (fun _ _ _ h => h) (.inl ⟨by rfl, ?hy1y⟩) S8 ?rest1y
 case hy1y =>
  rintro w' _
  go_simp
  all_goals with_reducible rfl
 try simp only [Act.put, List.getElem_toArray, List.getElem_cons_succ, List.getElem_cons_zero, List.setIfInBounds_toArray, List.set_cons_zero, List.set_cons_succ]
 refine lec_takeP (i := 2) (v := ?v2y) rfl (by kernel_rfl) (by kernel_rfl) (by kernel_rfl) (by kernel_rfl) (fun _ _ _ h => h) (.inl ⟨by rfl, ?hy2y⟩) S8 ?rest2y
 case hy2y =>
  rintro w' _
  go_simp
  all_goals with_reducible rfl
 try simp only [Act.put, List.getElem_toArray, List.getElem_cons_succ, List.getElem_cons_zero, List.setIfInBounds_toArray, List.set_cons_zero, List.set_cons_succ]
 refine lec_takeP (i := 3) (v := ?v3y) rfl (by kernel_rfl) (by kernel_rfl) (by kernel_rfl) (by kernel_rfl) (fun _ _ _ h => h) (.inl ⟨by rfl, ?hy3y⟩) S8 ?rest3y
 case hy3y =>
  rintro w' _
  go_simp
  all_goals with_reducible rfl
 try simp only [Act.put, List.getElem_toArray, List.getElem_cons_succ, List.getElem_cons_zero, List.setIfInBounds_toArray, List.set_cons_zero, List.set_cons_succ]
 refine lec_takeP (i := 4) (v := ?v4y) rfl (by kernel_rfl) (by kernel_rfl) (by kernel_rfl) (by kernel_rfl) (fun _ _ _ h => h) (.inl ⟨by rfl, ?hy4y⟩) S8 ?rest4y
 case hy4y =>
  rintro w' _
  go_simp
  all_goals with_reducible rfl
 try simp only [Act.put, List.getElem_toArray, List.getElem_cons_succ, List.getElem_cons_zero, List.setIfInBounds_toArray, List.set_cons_zero, List.set_cons_succ]
 refine lec_takeT [12, 13] (i := 5) (v := ?v5y) rfl (by kernel_rfl) (by kernel_rfl) (by kernel_rfl) (by kernel_rfl) (fun _ _ _ h => h) (.inl ⟨by rfl, ?hy5y⟩) S8 ?rest5y
 case hy5y =>
  rintro w' ⟨g0, g1, g2, g3, g4, g5, g6, g7, g8, g9, g10⟩
  go_simp
  all_goals with_reducible rfl
 try simp only [Act.put, List.getElem_toArray, List.getElem_cons_succ, List.getElem_cons_zero, List.setIfInBounds_toArray, List.set_cons_zero, List.set_cons_succ]
 refine lec_takeP (i := 6) (v := ?v6y) rfl (by kernel_rfl) (by kernel_rfl) (by kernel_rfl) (by kernel_rfl) (fun _ _ _ h => h) (.inl ⟨by rfl, ?hy6y⟩) S8 ?rest6y
 case hy6y =>
  rintro w' _
  go_simp
  all_goals with_reducible rfl
 try simp only [Act.put, List.getElem_toArray, List.getElem_cons_succ, List.getElem_cons_zero, List.setIfInBounds_toArray, List.set_cons_zero, List.set_cons_succ]
 refine lec_takeP (i := 7) (v := ?v7y) rfl (by kernel_rfl) (by kernel_rfl) (by kernel_rfl) (by kernel_rfl) (fun _ _ _ h => h) (.inl ⟨by rfl, ?hy7y⟩) S8 ?rest7y
 case hy7y =>
  rintro w' _
  go_simp
  all_goals with_reducible rfl
 try simp only [Act.put, List.getElem_toArray, List.getElem_cons_succ, List.getElem_cons_zero, List.setIfInBounds_toArray, List.set_cons_zero, List.set_cons_succ]
 refine lec_takeP (i := 8) (v := ?v8y) rfl (by kernel_rfl) (by kernel_rfl) (by kernel_rfl) (by kernel_rfl) (fun _ _ _ h => h) (.inl ⟨by rfl, ?hy8y⟩) S8 ?rest8y
 case hy8y =>
  rintro w' _
  go_simp
  all_goals with_reducible rfl
 try simp only [Act.put, List.getElem_toArray, List.getElem_cons_succ, List.getElem_cons_zero, List.setIfInBounds_toArray, List.set_cons_zero, List.set_cons_succ]
 refine lec_takeP (i := 9) (v := ?v9y) rfl (by kernel_rfl) (by kernel_rfl) (by kernel_rfl) (by kernel_rfl) (fun _ _ _ h => h) (.inl ⟨by rfl, ?hy9y⟩) S8 ?rest9y
 case hy9y =>
  rintro w' _
  go_simp
  all_goals with_reducible rfl
 try simp only [Act.put, List.getElem_toArray, List.getElem_cons_succ, List.getElem_cons_zero, List.setIfInBounds_toArray, List.set_cons_zero, List.set_cons_succ]
 refine lec_takeT [11, 12, 13] (i := 10) (v := ?v10y) rfl (by kernel_rfl) (by kernel_rfl) (by kernel_rfl) (by kernel_rfl) (fun _ _ _ h => h) (.inl ⟨by rfl, ?hy10y⟩) S8 ?rest10y
 case hy10y =>
  rintro w' ⟨g0, g1, g2, g3, g4, g5, g6, g7, g8, g9, g10⟩
  go_simp
  all_goals with_reducible rfl
 try simp only [Act.put, List.getElem_toArray, List.getElem_cons_succ, List.getElem_cons_zero, List.setIfInBounds_toArray, List.set_cons_zero, List.set_cons_succ]
 refine lec_one (i := 11) rfl (by kernel_rfl) ?_
 intro K11 hK11
 rw [if_pos (by rfl)]
 go_simp
 refine Calls.mono (HWD.out _ (((Below.refl _ _).drew).drew)) ?_
 rintro e w2 ⟨rfl, rfl⟩
 go_simp
 refine hK11 _ _ (fun _ => S8) ?_
 clear hK11
 try simp only [Act.put, List.getElem_toArray, List.getElem_cons_succ, List.getElem_cons_zero, List.setIfInBounds_toArray, List.set_cons_zero, List.set_cons_succ]
 refine lec_takeP (i := 12) (v := ?v12y) rfl (by kernel_rfl) (by kernel_rfl) (by kernel_rfl) (by kernel_rfl) (fun _ _ _ h => h) (.inl ⟨by rfl, ?hy12y⟩) S8 ?rest12y
 case hy12y =>
  rintro w' _
  go_simp
  all_goals with_reducible rfl
 try simp only [Act.put, List.getElem_toArray, List.getElem_cons_succ, List.getElem_cons_zero, List.setIfInBounds_toArray, List.set_cons_zero, List.set_cons_succ]
 refine lec_one (i := 13) rfl (by kernel_rfl) ?_
 intro K13 hK13
 rw [if_pos (by rfl)]
 go_simp
 go_simp
 refine hK13 _ _ (fun h => by cases h) ?_
 clear hK13
 try simp only [Act.put, List.getElem_toArray, List.getElem_cons_succ, List.getElem_cons_zero, List.setIfInBounds_toArray, List.set_cons_zero, List.set_cons_succ]
 refine lec_done (by kernel_rfl) ?_
 clear S8
 go_upto_region 5 with fail
 have S8 : (fun w' : World => w'.cell? ⟨kb, 0, none⟩ = some (.int .i64 op) /\ w'.cell? ⟨kb, 1, none⟩ = some (.int .i64 (a : Int)) /\ w'.cell? ⟨kb, 2, none⟩ = some (.int .i64 (b : Int)) /\ w'.cell? ⟨kb, 3, none⟩ = some (.int .i64 (c : Int)) /\ w'.cell? ⟨kb, 4, none⟩ = some (.int .i64 n) /\ w'.cell? ⟨mb, 42 + a, none⟩ = some (.int .i64 xa) /\ w'.cell? ⟨mb, 42 + b, none⟩ = some (.int .i64 xb) /\ w'.cell? ⟨mb, 63, none⟩ = some (.pointer (some ⟨s.hb, 0, none⟩)) /\ w'.cell? ⟨mb, 64, none⟩ = some (.int .i64 s.room) /\ mb < w'.heap.size /\ kb < w'.heap.size) W.drew.drew.drew := ⟨y0, y1, y2, y3, y4, ra, rb, c63, c64, hlW, l1⟩
 refine lec_start (S := fun w' : World => w'.cell? ⟨kb, 0, none⟩ = some (.int .i64 op) /\ w'.cell? ⟨kb, 1, none⟩ = some (.int .i64 (a : Int)) /\ w'.cell? ⟨kb, 2, none⟩ = some (.int .i64 (b : Int)) /\ w'.cell? ⟨kb, 3, none⟩ = some (.int .i64 (c : Int)) /\ w'.cell? ⟨kb, 4, none⟩ = some (.int .i64 n) /\ w'.cell? ⟨mb, 42 + a, none⟩ = some (.int .i64 xa) /\ w'.cell? ⟨mb, 42 + b, none⟩ = some (.int .i64 xb) /\ w'.cell? ⟨mb, 63, none⟩ = some (.pointer (some ⟨s.hb, 0, none⟩)) /\ w'.cell? ⟨mb, 64, none⟩ = some (.int .i64 s.room) /\ mb < w'.heap.size /\ kb < w'.heap.size) (z := 17) (by kernel_rfl) ?_
 show lec _ _ _ _ _ 18 _ _ _
 try simp only [List.size_toArray, List.length_cons, List.length_nil, Array.replicate]
 refine lec_takeP (i := 0) (v := ?v0x) rfl (by kernel_rfl) (by kernel_rfl) (by kernel_rfl) (by kernel_rfl) (fun _ _ _ h => h) (.inl ⟨by rfl, ?hy0x⟩) S8 ?rest0x
 case hy0x =>
  rintro w' _
  go_simp
  all_goals with_reducible rfl
 try simp only [Act.put, List.getElem_toArray, List.getElem_cons_succ, List.getElem_cons_zero, List.setIfInBounds_toArray, List.set_cons_zero, List.set_cons_succ]
 refine lec_takeP (i := 1) (v := ?v1x) rfl (by kernel_rfl) (by kernel_rfl) (by kernel_rfl) (by kernel_rfl) (fun _ _ _ h => h) (.inl ⟨by rfl, ?hy1x⟩) S8 ?rest1x
 case hy1x =>
  rintro w' _
  go_simp
  all_goals with_reducible rfl
 try simp only [Act.put, List.getElem_toArray, List.getElem_cons_succ, List.getElem_cons_zero, List.setIfInBounds_toArray, List.set_cons_zero, List.set_cons_succ]
 refine lec_takeT [16, 17] (i := 2) (v := ?v2x) rfl (by kernel_rfl) (by kernel_rfl) (by kernel_rfl) (by kernel_rfl) (fun _ _ _ h => h) (.inl ⟨by rfl, ?hy2x⟩) S8 ?rest2x
 case hy2x =>
  rintro w' ⟨g0, g1, g2, g3, g4, g5, g6, g7, g8, g9, g10⟩
  go_simp
  all_goals with_reducible rfl
 try simp only [Act.put, List.getElem_toArray, List.getElem_cons_succ, List.getElem_cons_zero, List.setIfInBounds_toArray, List.set_cons_zero, List.set_cons_succ]
 refine lec_takeP (i := 3) (v := ?v3x) rfl (by kernel_rfl) (by kernel_rfl) (by kernel_rfl) (by kernel_rfl) (fun _ _ _ h => h) (.inl ⟨by rfl, ?hy3x⟩) S8 ?rest3x
 case hy3x =>
  rintro w' _
  go_simp
  all_goals with_reducible rfl
 try simp only [Act.put, List.getElem_toArray, List.getElem_cons_succ, List.getElem_cons_zero, List.setIfInBounds_toArray, List.set_cons_zero, List.set_cons_succ]
 refine lec_takeP (i := 4) (v := ?v4x) rfl (by kernel_rfl) (by kernel_rfl) (by kernel_rfl) (by kernel_rfl) (fun _ _ _ h => h) (.inl ⟨by rfl, ?hy4x⟩) S8 ?rest4x
 case hy4x =>
  rintro w' _
  go_simp
  all_goals with_reducible rfl
 try simp only [Act.put, List.getElem_toArray, List.getElem_cons_succ, List.getElem_cons_zero, List.setIfInBounds_toArray, List.set_cons_zero, List.set_cons_succ]
 refine lec_takeP (i := 5) (v := ?v5x) rfl (by kernel_rfl) (by kernel_rfl) (by kernel_rfl) (by kernel_rfl) (fun _ _ _ h => h) (.inl ⟨by rfl, ?hy5x⟩) S8 ?rest5x
 case hy5x =>
  rintro w' _
  go_simp
  all_goals with_reducible rfl
 try simp only [Act.put, List.getElem_toArray, List.getElem_cons_succ, List.getElem_cons_zero, List.setIfInBounds_toArray, List.set_cons_zero, List.set_cons_succ]
 refine lec_takeP (i := 6) (v := ?v6x) rfl (by kernel_rfl) (by kernel_rfl) (by kernel_rfl) (by kernel_rfl) (fun _ _ _ h => h) (.inl ⟨by rfl, ?hy6x⟩) S8 ?rest6x
 case hy6x =>
  rintro w' _
  go_simp
  all_goals with_reducible rfl
 try simp only [Act.put, List.getElem_toArray, List.getElem_cons_succ, List.getElem_cons_zero, List.setIfInBounds_toArray, List.set_cons_zero, List.set_cons_succ]
 refine lec_takeT [9, 10, 11, 12, 16, 17] (i := 7) (v := ?v7x) rfl (by kernel_rfl) (by kernel_rfl) (by kernel_rfl) (by kernel_rfl) (fun _ _ _ h => h) (.inl ⟨by rfl, ?hy7x⟩) S8 ?rest7x
 case hy7x =>
  rintro w' ⟨g0, g1, g2, g3, g4, g5, g6, g7, g8, g9, g10⟩
  go_simp
  all_goals with_reducible rfl
 try simp only [Act.put, List.getElem_toArray, List.getElem_cons_succ, List.getElem_cons_zero, List.setIfInBounds_toArray, List.set_cons_zero, List.set_cons_succ]
 refine lec_takeP (i := 8) (v := ?v8x) rfl (by kernel_rfl) (by kernel_rfl) (by kernel_rfl) (by kernel_rfl) (fun _ _ _ h => h) (.inl ⟨by rfl, ?hy8x⟩) S8 ?rest8x
 case hy8x =>
  rintro w' _
  go_simp
  all_goals with_reducible rfl
 try simp only [Act.put, List.getElem_toArray, List.getElem_cons_succ, List.getElem_cons_zero, List.setIfInBounds_toArray, List.set_cons_zero, List.set_cons_succ]
 refine lec_takeP (i := 13) (v := ?v13x) rfl (by kernel_rfl) (by kernel_rfl) (by kernel_rfl) (by kernel_rfl) (fun _ _ _ h => h) (.inl ⟨by rfl, ?hy13x⟩) S8 ?rest13x
 case hy13x =>
  rintro w' _
  go_simp
  all_goals with_reducible rfl
 try simp only [Act.put, List.getElem_toArray, List.getElem_cons_succ, List.getElem_cons_zero, List.setIfInBounds_toArray, List.set_cons_zero, List.set_cons_succ]
 refine lec_takeP (i := 14) (v := ?v14x) rfl (by kernel_rfl) (by kernel_rfl) (by kernel_rfl) (by kernel_rfl) (fun _ _ _ h => h) (.inl ⟨by rfl, ?hy14x⟩) S8 ?rest14x
 case hy14x =>
  rintro w' _
  go_simp
  all_goals with_reducible rfl
 try simp only [Act.put, List.getElem_toArray, List.getElem_cons_succ, List.getElem_cons_zero, List.setIfInBounds_toArray, List.set_cons_zero, List.set_cons_succ]
 refine lec_takeP (i := 15) (v := ?v15x) rfl (by kernel_rfl) (by kernel_rfl) (by kernel_rfl) (by kernel_rfl) (fun _ _ _ h => h) (.inl ⟨by rfl, ?hy15x⟩) S8 ?rest15x
 case hy15x =>
  rintro w' _
  go_simp
  all_goals with_reducible rfl
 try simp only [Act.put, List.getElem_toArray, List.getElem_cons_succ, List.getElem_cons_zero, List.setIfInBounds_toArray, List.set_cons_zero, List.set_cons_succ]
 refine lec_one (i := 9) rfl (by kernel_rfl) ?_
 intro K9 hK9
 rw [if_pos (by rfl)]
 go_simp
 refine Calls.mono HMK.out ?_
 rintro e w2 ⟨rfl, s5, f5, s6, c6, c7⟩
 have S8 : (fun w' : World => w'.cell? ⟨kb, 0, none⟩ = some (.int .i64 op) /\ w'.cell? ⟨kb, 1, none⟩ = some (.int .i64 (a : Int)) /\ w'.cell? ⟨kb, 2, none⟩ = some (.int .i64 (b : Int)) /\ w'.cell? ⟨kb, 3, none⟩ = some (.int .i64 (c : Int)) /\ w'.cell? ⟨kb, 4, none⟩ = some (.int .i64 n) /\ w'.cell? ⟨mb, 42 + a, none⟩ = some (.int .i64 xa) /\ w'.cell? ⟨mb, 42 + b, none⟩ = some (.int .i64 xb) /\ w'.cell? ⟨mb, 63, none⟩ = some (.pointer (some ⟨s.hb, 0, none⟩)) /\ w'.cell? ⟨mb, 64, none⟩ = some (.int .i64 s.room) /\ mb < w'.heap.size /\ kb < w'.heap.size) w2 := s5
 have r5 : w2.cell? ⟨mb, 42 + a, none⟩ = some (.int .i64 xa) := s5.2.2.2.2.2.1
 have S6 : Hid _ := s6
 have C6 : Hid _ := c6
 have C7 : Hid _ := c7
 clear s5 s6 c6 c7
 go_simp
 refine hK9 _ _ (fun _ => S8) ?_
 clear hK9
 try simp only [Act.put, List.getElem_toArray, List.getElem_cons_succ, List.getElem_cons_zero, List.setIfInBounds_toArray, List.set_cons_zero, List.set_cons_succ]
 refine lec_takeP (i := 10) (v := ?v10x) rfl (by kernel_rfl) (by kernel_rfl) (by kernel_rfl) (by kernel_rfl) (fun _ _ _ h => h) (.inl ⟨by rfl, ?hy10x⟩) S8 ?rest10x
 case hy10x =>
  rintro w' _
  go_simp
  all_goals with_reducible rfl
 try simp only [Act.put, List.getElem_toArray, List.getElem_cons_succ, List.getElem_cons_zero, List.setIfInBounds_toArray, List.set_cons_zero, List.set_cons_succ]
 refine lec_takeP (i := 11) (v := ?v11x) rfl (by kernel_rfl) (by kernel_rfl) (by kernel_rfl) (by kernel_rfl) (fun _ _ _ h => h) (.inl ⟨by rfl, ?hy11x⟩) S8 ?rest11x
 case hy11x =>
  rintro w' _
  go_simp
  all_goals with_reducible rfl
 try simp only [Act.put, List.getElem_toArray, List.getElem_cons_succ, List.getElem_cons_zero, List.setIfInBounds_toArray, List.set_cons_zero, List.set_cons_succ]
 refine lec_takeP (i := 12) (v := ?v12x) rfl (by kernel_rfl) (by kernel_rfl) (by kernel_rfl) (by kernel_rfl) (fun _ _ _ h => h) (.inl ⟨by rfl, ?hy12x⟩) S8 ?rest12x
 case hy12x =>
  rintro w' _
  go_simp
  all_goals with_reducible rfl
 try simp only [Act.put, List.getElem_toArray, List.getElem_cons_succ, List.getElem_cons_zero, List.setIfInBounds_toArray, List.set_cons_zero, List.set_cons_succ]
 refine lec_takeP (i := 16) (v := ?v16x) rfl (by kernel_rfl) (by kernel_rfl) (by kernel_rfl) (by kernel_rfl) (fun _ _ _ h => h) (.inl ⟨by rfl, ?hy16x⟩) S8 ?rest16x
 case hy16x =>
  rintro w' _
  go_simp
  all_goals with_reducible rfl
 try simp only [Act.put, List.getElem_toArray, List.getElem_cons_succ, List.getElem_cons_zero, List.setIfInBounds_toArray, List.set_cons_zero, List.set_cons_succ]
 refine lec_one (i := 17) rfl (by kernel_rfl) ?_
 intro K17 hK17
 rw [if_pos (by rfl)]
 go_simp
 go_simp
 refine hK17 _ _ (fun h => by cases h) ?_
 clear hK17
 try simp only [Act.put, List.getElem_toArray, List.getElem_cons_succ, List.getElem_cons_zero, List.setIfInBounds_toArray, List.set_cons_zero, List.set_cons_succ]
 refine lec_done (by kernel_rfl) ?_
 clear S8
 go_upto_region 6 with fail
 have S8 : (fun w' : World => w'.cell? ⟨kb, 0, none⟩ = some (.int .i64 op) /\ w'.cell? ⟨kb, 1, none⟩ = some (.int .i64 (a : Int)) /\ w'.cell? ⟨kb, 2, none⟩ = some (.int .i64 (b : Int)) /\ w'.cell? ⟨kb, 3, none⟩ = some (.int .i64 (c : Int)) /\ w'.cell? ⟨kb, 4, none⟩ = some (.int .i64 n) /\ w'.cell? ⟨mb, 42 + a, none⟩ = some (.int .i64 (R.tk + 1)) /\ w'.cell? ⟨mb, 63, none⟩ = some (.pointer (some ⟨s.hb, 0, none⟩)) /\ w'.cell? ⟨mb, 64, none⟩ = some (.int .i64 s.room) /\ mb < w'.heap.size /\ kb < w'.heap.size) (w2.setCell ⟨mb, 42 + a, none⟩ (.int .i64 (R.tk + 1))).drew := S6.out
 refine lec_start (S := fun w' : World => w'.cell? ⟨kb, 0, none⟩ = some (.int .i64 op) /\ w'.cell? ⟨kb, 1, none⟩ = some (.int .i64 (a : Int)) /\ w'.cell? ⟨kb, 2, none⟩ = some (.int .i64 (b : Int)) /\ w'.cell? ⟨kb, 3, none⟩ = some (.int .i64 (c : Int)) /\ w'.cell? ⟨kb, 4, none⟩ = some (.int .i64 n) /\ w'.cell? ⟨mb, 42 + a, none⟩ = some (.int .i64 (R.tk + 1)) /\ w'.cell? ⟨mb, 63, none⟩ = some (.pointer (some ⟨s.hb, 0, none⟩)) /\ w'.cell? ⟨mb, 64, none⟩ = some (.int .i64 s.room) /\ mb < w'.heap.size /\ kb < w'.heap.size) (z := 9) (by kernel_rfl) ?_
 show lec _ _ _ _ _ 10 _ _ _
 try simp only [List.size_toArray, List.length_cons, List.length_nil, Array.replicate]
 refine lec_takeP (i := 0) (v := ?v0w) rfl (by kernel_rfl) (by kernel_rfl) (by kernel_rfl) (by kernel_rfl) (fun _ _ _ h => h) (.inl ⟨by rfl, ?hy0w⟩) S8 ?rest0w
 case hy0w =>
  rintro w' _
  go_simp
  all_goals with_reducible rfl
 try simp only [Act.put, List.getElem_toArray, List.getElem_cons_succ, List.getElem_cons_zero, List.setIfInBounds_toArray, List.set_cons_zero, List.set_cons_succ]
 refine lec_takeP (i := 1) (v := ?v1w) rfl (by kernel_rfl) (by kernel_rfl) (by kernel_rfl) (by kernel_rfl) (fun _ _ _ h => h) (.inl ⟨by rfl, ?hy1w⟩) S8 ?rest1w
 case hy1w =>
  rintro w' _
  go_simp
  all_goals with_reducible rfl
 try simp only [Act.put, List.getElem_toArray, List.getElem_cons_succ, List.getElem_cons_zero, List.setIfInBounds_toArray, List.set_cons_zero, List.set_cons_succ]
 refine lec_takeP (i := 2) (v := ?v2w) rfl (by kernel_rfl) (by kernel_rfl) (by kernel_rfl) (by kernel_rfl) (fun _ _ _ h => h) (.inl ⟨by rfl, ?hy2w⟩) S8 ?rest2w
 case hy2w =>
  rintro w' _
  go_simp
  all_goals with_reducible rfl
 try simp only [Act.put, List.getElem_toArray, List.getElem_cons_succ, List.getElem_cons_zero, List.setIfInBounds_toArray, List.set_cons_zero, List.set_cons_succ]
 refine lec_takeP (i := 3) (v := ?v3w) rfl (by kernel_rfl) (by kernel_rfl) (by kernel_rfl) (by kernel_rfl) (fun _ _ _ h => h) (.inl ⟨by rfl, ?hy3w⟩) S8 ?rest3w
 case hy3w =>
  rintro w' _
  go_simp
  all_goals with_reducible rfl
 try simp only [Act.put, List.getElem_toArray, List.getElem_cons_succ, List.getElem_cons_zero, List.setIfInBounds_toArray, List.set_cons_zero, List.set_cons_succ]
 refine lec_takeP (i := 4) (v := ?v4w) rfl (by kernel_rfl) (by kernel_rfl) (by kernel_rfl) (by kernel_rfl) (fun _ _ _ h => h) (.inl ⟨by rfl, ?hy4w⟩) S8 ?rest4w
 case hy4w =>
  rintro w' _
  go_simp
  all_goals with_reducible rfl
 try simp only [Act.put, List.getElem_toArray, List.getElem_cons_succ, List.getElem_cons_zero, List.setIfInBounds_toArray, List.set_cons_zero, List.set_cons_succ]
 refine lec_takeP (i := 5) (v := ?v5w) rfl (by kernel_rfl) (by kernel_rfl) (by kernel_rfl) (by kernel_rfl) (fun _ _ _ h => h) (.inl ⟨by rfl, ?hy5w⟩) S8 ?rest5w
 case hy5w =>
  rintro w' _
  go_simp
  all_goals with_reducible rfl
 try simp only [Act.put, List.getElem_toArray, List.getElem_cons_succ, List.getElem_cons_zero, List.setIfInBounds_toArray, List.set_cons_zero, List.set_cons_succ]
 refine lec_takeP (i := 6) (v := ?v6w) rfl (by kernel_rfl) (by kernel_rfl) (by kernel_rfl) (by kernel_rfl) (fun _ _ _ h => h) (.inl ⟨by rfl, ?hy6w⟩) S8 ?rest6w
 case hy6w =>
  rintro w' _
  go_simp
  all_goals with_reducible rfl
 try simp only [Act.put, List.getElem_toArray, List.getElem_cons_succ, List.getElem_cons_zero, List.setIfInBounds_toArray, List.set_cons_zero, List.set_cons_succ]
 refine lec_takeT [8, 9] (i := 7) (v := ?v7w) rfl (by kernel_rfl) (by kernel_rfl) (by kernel_rfl) (by kernel_rfl) (fun _ _ _ h => h) (.inl ⟨by rfl, ?hy7w⟩) S8 ?rest7w
 case hy7w =>
  rintro w' ⟨g0, g1, g2, g3, g4, g5, g6, g7, g8, g9⟩
  go_simp
  all_goals with_reducible rfl
 try simp only [Act.put, List.getElem_toArray, List.getElem_cons_succ, List.getElem_cons_zero, List.setIfInBounds_toArray, List.set_cons_zero, List.set_cons_succ]
 refine lec_one (i := 8) rfl (by kernel_rfl) ?_
 intro K8 hK8
 rw [if_pos (by rfl)]
 go_simp
 refine Calls.mono C6.out ?_
 rintro e w7 ⟨rfl, rfl⟩
 go_simp
 refine hK8 _ _ (fun _ => S8) ?_
 clear hK8
 try simp only [Act.put, List.getElem_toArray, List.getElem_cons_succ, List.getElem_cons_zero, List.setIfInBounds_toArray, List.set_cons_zero, List.set_cons_succ]
 refine lec_one (i := 9) rfl (by kernel_rfl) ?_
 intro K9 hK9
 rw [if_pos (by rfl)]
 go_simp
 refine Calls.mono C7.out ?_
 rintro e w8 ⟨rfl, h2⟩
 have H2 : Hid _ := h2
 clear h2
 go_simp
 refine hK9 _ _ (fun h => by cases h) ?_
 clear hK9
 try simp only [Act.put, List.getElem_toArray, List.getElem_cons_succ, List.getElem_cons_zero, List.setIfInBounds_toArray, List.set_cons_zero, List.set_cons_succ]
 refine lec_done (by kernel_rfl) ?_
 clear S8
 go_wp2_with fail
 exact bodyPost_end (v := .tuple #[]) (by simp [results, Tryz.results55, go_sem]) rfl ⟨rfl, H2.out⟩
end Go.Proofs.YtfofmmkihhnfmaaGreatDoor
